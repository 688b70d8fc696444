import PyProof.Rows.All
import Wide.All
import OpenK.AllK
import Wide.FinOn
import PyProof.EqAt
import PyProof.EqKinds
import PyProof.TupleCall
import KE.BitLaws
import KE.KNest
import PySem.Challenge.RW_origincert_s01_answers
import PyVbemak
import KE.KSortTupG
import KE.KLam
import KE.KDictSum
import PyProof.ListRange
import PyProof.ZipIter
import Open.SpecLaws
import KE.OsHead
import KE.OsGo
set_option Elab.async false
set_option linter.all false
set_option maxRecDepth 100000
set_option maxHeartbeats 4000000
namespace L2
open PySem PySem.Spec PyProof.Rows
abbrev Key:=Sum Int Str
def zKg:Key→Value→Bool
 |.inl k,v=>Value.isInt k v
 |.inr x,v=>Value.isStrOf x v
def zEB (w:World):Key→Int
 |.inl k=>hashInt k
 |.inr x=>hashStr w x
theorem zac:∀{k:Key} {v:Value},zKg k v=true→(∃i t,k=Sum.inl i∧v=Value.int i t)∨(∃x t,k=Sum.inr x∧v=Value.str x t)
 |.inl i,v,h=>by
  obtain ⟨t,e⟩:=Value.isInt_shape (k:=i) (v:=v) h
  exact .inl ⟨i,t,rfl,e⟩
 |.inr x,v,h=>by
  obtain ⟨t,e⟩:=Value.isStrOf_shape (x:=x) (v:=v) h
  exact .inr ⟨x,t,rfl,e⟩
theorem zIr (i:Int) (t:Tok):zKg (.inl i) (.int i t)=true:=by simp [zKg,Value.isInt]
theorem zYr (x:Str) (t:Tok):zKg (.inr x) (.str x t)=true:=by simp [zKg,Value.isStrOf]
theorem zoC (a b:Int):decide ((Sum.inl a:Key)=Sum.inl b)=(a==b):=by
 by_cases e:a=b
 ·subst e;simp
 ·have h:¬(Sum.inl a:Key)=Sum.inl b:=fun q=>e (Sum.inl.inj q)
  rw [decide_eq_false h]
  exact (beq_eq_false_iff_ne.mpr e).symm
theorem zaC (a b:Str):decide ((Sum.inr a:Key)=Sum.inr b)=decide (a=b):=by
 by_cases e:a=b
 ·subst e;simp
 ·have h:¬(Sum.inr a:Key)=Sum.inr b:=fun q=>e (Sum.inr.inj q)
  rw [decide_eq_false h,decide_eq_false e]
theorem zjB (a:Int) (b:Str):decide ((Sum.inl a:Key)=Sum.inr b)=false:=decide_eq_false (fun q=>nomatch q)
theorem z5B (a:Str) (b:Int):decide ((Sum.inr a:Key)=Sum.inl b)=false:=decide_eq_false (fun q=>nomatch q)
def zsb (prog:Program) (w:World):PySem.KeyKind prog w Key where
 is:=zKg
 hash:=zEB w
 inj:=fun v a b ha hb=>by
  rcases zac ha with ⟨i,t,rfl,rfl⟩|⟨x,t,rfl,rfl⟩
  ·rcases zac hb with ⟨j,u,rfl,e⟩|⟨y,u,rfl,e⟩
   ·injection e with e1 _;rw [e1]
   ·exact nomatch e
  ·rcases zac hb with ⟨j,u,rfl,e⟩|⟨y,u,rfl,e⟩
   ·exact nomatch e
   ·injection e with e1 _;rw [e1]
 byValue:=fun k v h=>by
  rcases zac h with ⟨i,t,rfl,rfl⟩|⟨x,t,rfl,rfl⟩<;>rfl
 pyHash:=fun hv h=>by
  rcases zac hv with ⟨i,t,rfl,rfl⟩|⟨x,t,rfl,rfl⟩
  ·exact wpAny_pyHash_int h
  ·exact wpAny_pyHash_str h
 eqBool:=fun hu hv h=>by
  rcases zac hu with ⟨i,t,rfl,rfl⟩|⟨x,t,rfl,rfl⟩
  ·rcases zac hv with ⟨j,u,rfl,rfl⟩|⟨y,u,rfl,rfl⟩
   ·rw [zoC] at h;exact wpAny_eqBool_int h
   ·rw [zjB] at h;exact SeqAt.EqAt.int_str i t y u _ _ _ _ h
  ·rcases zac hv with ⟨j,u,rfl,rfl⟩|⟨y,u,rfl,rfl⟩
   ·rw [z5B] at h;exact SeqAt.EqAt.str_int x t j u _ _ _ _ h
   ·rw [zaC] at h;exact wpAny_eqBool_str h
 «strs»:=fun k x t v h=>by
  rcases zac h with ⟨i,u,rfl,e⟩|⟨y,u,rfl,e⟩
  ·exact nomatch e
  ·injection e with e1 _
   subst e1
   cases v<;>rfl
theorem zcv (prog:Program) (w:World) (i:Int) (t:Tok):(zsb prog w).is (.inl i) (.int i t)=true:=zIr i t
theorem zUu (prog:Program) (w:World) (x:Str) (t:Tok):(zsb prog w).is (.inr x) (.str x t)=true:=zYr x t
end L2
namespace L2
open PySem PySem.Spec PyProof.Rows
inductive V where
 |non|bl (b:Bool)|int (i:Int)|str (x:Str)|byt (b:Array UInt8)|flt (b:UInt64)|ref (a:Addr)|ty (n:String)
 deriving DecidableEq
def RelV:V→Value→Prop
 |.non,u=>u=Value.none
 |.bl b,u=>u=Value.bool b
 |.int i,u=>∃t,u=Value.int i t
 |.str x,u=>∃t,u=Value.str x t
 |.byt b,u=>∃t,u=Value.bytes b t
 |.flt b,u=>∃t,u=Value.float b t
 |.ref a,u=>u=Value.ref a
 |.ty n,u=>u=Value.type n
abbrev Vals:List V→List Value→Prop:=Paired RelV
theorem Vals.length {xs:List V} {us:List Value} (r:Vals xs us):xs.length=us.length:=Paired.length r
theorem Vals.get:∀{xs:List V} {us:List Value} {i:Nat} {x:V},Vals xs us→xs[i]?=some x→∃u,us[i]?=some u∧RelV x u
 |_,_,_,_,.nil,e=>by simp at e
 |_,_,0,_,.cons r _,e=>by simp at e;subst e;exact ⟨_,rfl,r⟩
 |_,_,i + 1,x,.cons _ t,e=>by
  obtain ⟨u,h1,h2⟩:=Vals.get (i:=i) (x:=x) t (by simpa using e)
  exact ⟨u,by simpa using h1,h2⟩
theorem Vals.set {x:V} {u:Value} (r:RelV x u):∀{xs:List V} {us:List Value} (i:Nat),Vals xs us→Vals (xs.set i x) (us.set i u)
 |_,_,_,.nil=>.nil
 |_,_,0,.cons _ t=>.cons r t
 |_,_,i + 1,.cons q t=>.cons q (Vals.set r i t)
theorem Vals.append:∀{xs ys:List V} {us ws:List Value},Vals xs us→Vals ys ws→Vals (xs++ys) (us++ws)
 |_,_,_,_,.nil,s=>s
 |_,_,_,_,.cons r t,s=>.cons r (Vals.append t s)
theorem Vals.take:∀{xs:List V} {us:List Value} (n:Nat),Vals xs us→Vals (xs.take n) (us.take n)
 |_,_,0,_=>.nil
 |_,_,_ + 1,.nil=>.nil
 |_,_,n + 1,.cons r t=>.cons r (Vals.take n t)
theorem Vals.drop:∀{xs:List V} {us:List Value} (n:Nat),Vals xs us→Vals (xs.drop n) (us.drop n)
 |_,_,0,r=>r
 |_,_,_ + 1,.nil=>.nil
 |_,_,n + 1,.cons _ t=>Vals.drop n t
def zEe:Option V→Option Value→Prop
 |some v,some u=>RelV v u
 |none,none=>True
 |_,_=>False
def KV {κ:Type}:List (κ×V)→List (κ×Value)→Prop:=Paired fun (p:κ×V) (q:κ×Value)=>p.1=q.1∧RelV p.2 q.2
def kV:Key→V
 |.inl i=>.int i
 |.inr x=>.str x
inductive HO where
 |lst (xs:List V)
 |tup (xs:List V)
 |dK (kvs:List (Key×V))|dT (kvs:List (List Key×V))
 |set (S:Int→Bool) (n:Nat)
 |ins (C dx:Addr) (fs:List (Str×V))
 |own (x:Addr)
 |xd (fs:List (Str×V))
 |met (f x:Addr)
 |rng (lo hi:Int)
 |frz (o:Obj) (u:HO)
 |tbl (ps:Array Value)
 |ext (φ:Heap→Prop)
abbrev Hp:=Addr→Option HO
def upd (H:Hp) (a:Addr) (o:HO):Hp:=fun b=>if b=a then some o else H b
theorem zc {H:Hp} {a:Addr} {o:HO}:upd H a o a=some o:=by unfold upd;rw [if_pos rfl]
theorem zi {H:Hp} {a b:Addr} {o:HO} (h:b≠a):upd H a o b=H b:=by unfold upd;rw [if_neg h]
theorem zZb {H:Hp} {a b:Addr} {o u:HO} (h:H a=some o) (h':H b=some u) (d:o≠u):a≠b:=by
 intro e;subst e;rw [h] at h';exact d (Option.some.inj h')
theorem zk {H:Hp} {a b:Addr} {o:HO} (h:H a=some o) (h':H b=none):a≠b:=by
 intro e;subst e;rw [h] at h';cases h'
section
variable (P:Program) (w:World)
def zzb (H:Hp) (h:Heap) (a:Addr):HO→Prop
 |.lst xs=>xs.length≤sizeLine∧∃(its:List Value) (n:Nat),Vals xs its∧h.get? a=some { cls:=.type "list",data:=.seq its.toArray n }
 |.tup xs=>xs.length≤sizeLine∧∃its:List Value,Vals xs its∧IsTup h a its.toArray
 |.dK kvs=>kvs.length≤sizeLine∧(a==sysModules)=false∧∃vs,KV kvs vs∧h.DictOf (zsb P w) a vs
 |.dT kvs=>kvs.length≤sizeLine∧(a==sysModules)=false∧∃xs:List (List Key×Addr×Value),
   Paired (fun (p:List Key×V) (q:List Key×Addr×Value)=>p.1=q.1∧H q.2.1=some (.tup (p.1.map kV))∧RelV p.2 q.2.2) kvs xs∧
   ∃o es ep,h.get? a=some o∧o.ExactDict∧o.data=.dict es ep∧es.toList=xs.map (entryOfKey (tupleKind (zsb P w)))∧(xs.map (·.1)).Nodup
 |.set S n=>h.SetOf (intKind P w) a S n
 |.ins C dx fs=>H dx=some (.own a)∧fs.length≤1000∧dx≠a∧h.get? a=some (PySem.W.instObj C dx)∧
   ∃mA,h.Ns1 dx mA∧(∀f,zEe (fs.lookup f) (mA f))∧PySem.Within mA (fs.map (·.1))
 |.own _=>∃o,h.get? a=some o
 |.xd fs=>∃mA,h.Ns1 a mA∧∀f,zEe (fs.lookup f) (mA f)
 |.rng lo hi=>∃t u v,h.get? a=some { cls:=.type "range",data:=.fields #[.int lo t,.int hi u,.int 1 v] }
 |.frz o u=>h.get? a=some o∧zzb H h a u
 |.tbl ps=>h.get? a=some { cls:=.none,data:=.fields ps }
 |.met f x=>h.get? a=some (PySem.W.methodObj (.ref f) (.ref x))
 |.ext φ=>φ h∧(∃o,h.get? a=some o)∧∀h1 h2:Heap,φ h1→(∀o,h1.get? a=some o→h2.get? a=some o)→φ h2
def HOk (H:Hp) (h:Heap):Prop:=∀a o,H a=some o→zzb P w H h a o
end
section
variable {P:Program} {w:World} {H H':Hp} {h h':Heap} {a:Addr} {o:HO}
theorem zzb.lt (x:zzb P w H h a o):a < h.objs.size:=by
 cases o with
 |lst xs=>obtain ⟨_,_,_,_,e⟩:=x;exact Heap.lt_size e
 |tup xs=>obtain ⟨_,_,_,p⟩:=x;exact p.lt
 |dK kvs=>obtain ⟨_,_,_,_,o,_,_,e,_⟩:=x;exact Heap.lt_size e
 |dT kvs=>obtain ⟨_,_,_,_,o,_,_,e,_⟩:=x;exact Heap.lt_size e
 |set S n=>obtain ⟨o,_,_,_,e,_⟩:=x;exact Heap.lt_size e
 |ins C dx fs=>obtain ⟨_,_,_,e,_⟩:=x;exact Heap.lt_size e
 |own y=>obtain ⟨_,e⟩:=x;exact Heap.lt_size e
 |xd fs=>obtain ⟨_,⟨_,_,_,e,_⟩,_⟩:=x;exact Heap.lt_size e
 |rng lo hi=>obtain ⟨_,_,_,e⟩:=x;exact Heap.lt_size e
 |frz ob u=>obtain ⟨e,_⟩:=x;exact Heap.lt_size e
 |tbl ps=>exact Heap.lt_size (show h.get? a=some _ from x)
 |met f y=>exact Heap.lt_size (show h.get? a=some _ from x)
 |ext φ=>obtain ⟨_,⟨_,e⟩,_⟩:=x;exact Heap.lt_size e
theorem Paired.mapP {α β:Type} {F G:α→β→Prop}:∀{l₁:List α} {l₂:List β},Paired F l₁ l₂→(∀a b,F a b→G a b)→Paired G l₁ l₂
 |_,_,.nil,_=>.nil
 |_,_,.cons r t,f=>.cons (f _ _ r) (Paired.mapP t f)
theorem zzb.stay (x:zzb P w H h a o) (k:∀b u,(b=a∨H b=some (.own a))→h.get? b=some u→h'.get? b=some u)
  (ho:∀b,H b=some (.own a)→H' b=some (.own a)) (ht:∀b xs,H b=some (.tup xs)→H' b=some (.tup xs)):zzb P w H' h' a o:=by
 induction o with
 |lst xs=>obtain ⟨z,its,n,r,e⟩:=x;exact ⟨z,its,n,r,k _ _ (.inl rfl) e⟩
 |tup xs=>obtain ⟨z,its,r,ob,e,c⟩:=x;exact ⟨z,its,r,ob,k _ _ (.inl rfl) e,c⟩
 |dK kvs=>obtain ⟨z,y,vs,r,ob,es,ep,e,c⟩:=x;exact ⟨z,y,vs,r,ob,es,ep,k _ _ (.inl rfl) e,c⟩
 |dT kvs=>
  obtain ⟨z,y,xs,r,ob,es,ep,e,c⟩:=x
  exact ⟨z,y,xs,Paired.mapP r fun p q z=>⟨z.1,ht _ _ z.2.1,z.2.2⟩,ob,es,ep,k _ _ (.inl rfl) e,c⟩
 |set S n=>obtain ⟨ob,es,ep,t,e,c⟩:=x;exact ⟨ob,es,ep,t,k _ _ (.inl rfl) e,c⟩
 |ins C dx fs=>
  obtain ⟨d,z,ne,e,mA,⟨od,es,ep,e2,c⟩,r⟩:=x
  exact ⟨ho _ d,z,ne,k _ _ (.inl rfl) e,mA,⟨od,es,ep,k _ _ (.inr d) e2,c⟩,r⟩
 |own y=>obtain ⟨ob,e⟩:=x;exact ⟨ob,k _ _ (.inl rfl) e⟩
 |xd fs=>obtain ⟨mA,⟨od,es,ep,e,c⟩,r⟩:=x;exact ⟨mA,⟨od,es,ep,k _ _ (.inl rfl) e,c⟩,r⟩
 |rng lo hi=>obtain ⟨t,u,v,e⟩:=x;exact ⟨t,u,v,k _ _ (.inl rfl) e⟩
 |frz ob u ih=>obtain ⟨e,q⟩:=x;exact ⟨k _ _ (.inl rfl) e,ih q⟩
 |tbl ps=>
  have e:h.get? a=some { cls:=.none,data:=.fields ps }:=x
  show h'.get? a=some { cls:=.none,data:=.fields ps }
  exact k a _ (.inl rfl) e
 |met f y=>
  have e:h.get? a=some (PySem.W.methodObj (.ref f) (.ref y)):=x
  show h'.get? a=some (PySem.W.methodObj (.ref f) (.ref y))
  exact k a _ (.inl rfl) e
 |ext φ=>obtain ⟨p,⟨o,e⟩,st⟩:=x;exact ⟨st _ _ p fun o q=>k _ _ (.inl rfl) q,⟨o,k _ _ (.inl rfl) e⟩,st⟩
theorem HOk.lt (x:HOk P w H h) (e:H a=some o):a < h.objs.size:=(x a o e).lt
theorem HOk.fresh (x:HOk P w H h) (e:h.objs.size≤a):H a=none:=by
 cases q:H a with
 |none=>rfl
 |some u=>exact absurd (Nat.lt_of_lt_of_le (x.lt q) e) (Nat.lt_irrefl _)
theorem HOk.kept (x:HOk P w H h) (k:∀b u,h.get? b=some u→h'.get? b=some u):HOk P w H h':=fun a o e=>
 (x a o e).stay (fun b u _ q=>k b u q) (fun _ q=>q) fun _ _ q=>q
theorem HOk.laid (x:HOk P w H h) (k:∀b u,h.get? b=some u→h'.get? b=some u) (hp:h.objs.size≤a) (new:zzb P w (upd H a o) h' a o):HOk P w (upd H a o) h':=fun b u e=>by
 have hn:=x.fresh hp
 by_cases hb:b=a
 ·subst hb;rw [zc] at e;cases e;exact new
 ·rw [zi hb] at e
  exact (x b u e).stay (fun c v _ q=>k c v q) (fun c q=>by rw [zi (zk q hn)];exact q) fun c xs q=>by rw [zi (zk q hn)];exact q
end
def Rd (H:Hp) (a:Addr) (u:HO):Prop:=H a=some u∨∃o,H a=some (.frz o u)
theorem Rd.ok {P:Program} {w:World} {H:Hp} {h:Heap} {a:Addr} {u:HO} (r:Rd H a u) (x:HOk P w H h):zzb P w H h a u:=by
 rcases r with r|⟨o,r⟩
 ·exact x a u r
 ·obtain ⟨_,q⟩:=x a _ r
  exact q
def Mut:Option HO→Prop
 |some (.lst _)=>True
 |some (.dK _)=>True
 |some (.dT _)=>True
 |some (.set _ _)=>True
 |some (.ins _ _ _)=>True
 |some (.ext _)=>True
 |_=>False
section
variable {P:Program} {w:World} {H:Hp} {h h':Heap} {x e:Addr} {o':HO}
theorem HOk.write (ok:HOk P w H h) (mu:Mut (H x)) (he:e=x∨H e=some (.own x)) (k:∀b u,b≠e→h.get? b=some u→h'.get? b=some u) (heo:∃u,h'.get? e=some u)
  (new:zzb P w (upd H x o') h' x o'):HOk P w (upd H x o') h':=fun b u q=>by
 have nown:∀c y,H c=some (.own y)→c≠x:=fun c y r z=>by subst z;rw [r] at mu;exact mu
 have ntup:∀c xs,H c=some (.tup xs)→c≠x:=fun c xs r z=>by subst z;rw [r] at mu;exact mu
 by_cases hb:b=x
 ·subst hb;rw [zc] at q;cases q;exact new
 ·rw [zi hb] at q
  by_cases hbe:b=e
  ·have q':H b=some (.own x):=by
    rcases he with z|z
    ·exact absurd (hbe.trans z) hb
    ·rw [hbe];exact z
   rw [q] at q';cases q'
   obtain ⟨v,hv⟩:=heo
   exact ⟨v,by rw [hbe];exact hv⟩
  ·refine (ok b u q).stay (fun c v hc r=>k c v ?_ r) (fun c r=>by rw [zi (nown c b r)];exact r) fun c xs r=>by rw [zi (ntup c xs r)];exact r
   rcases hc with rfl|hc
   ·exact hbe
   ·rintro rfl
    rcases he with z|z
    ·exact nown c b hc z
    ·rw [hc] at z;cases z;exact hb rfl
end
structure Un (fs ex:List Addr) (H H':Hp) (h h':Heap):Prop where
 keep:∀b o,h.get? b=some o→H b=none→b∉fs→b∉ex→h'.get? b=some o
 slot:∀b o,h.get? b=some o→H b=none→b∈fs→b∉ex→∃sl,h'.get? b=some { o with slots:=sl }
 free:∀b o,h.get? b=some o→H b=none→b∉ex→H' b=none
 there:∀b o,h.get? b=some o→b∉ex→∃o',h'.get? b=some o'
 tups:∀b xs,H b=some (.tup xs)→H' b=some (.tup xs)
 frzs:∀b o u,H b=some (.frz o u)→H' b=some (.frz o u)
 tbls:∀b ps,H b=some (.tbl ps)→∃more,H' b=some (.tbl (ps++more))
section
variable {fs fs' ex ex':List Addr} {H H1 H2:Hp} {h h1 h2 h':Heap} {a x e:Addr} {o:HO}
theorem Un.any (u:Un fs ex H H1 h h1) {b:Addr} {ob:Obj} (q:h.get? b=some ob) (n:H b=none) (hx:b∉ex):∃sl,h1.get? b=some { ob with slots:=sl }:=by
 by_cases hb:b∈fs
 ·exact u.slot b ob q n hb hx
 ·exact ⟨ob.slots,u.keep b ob q n hb hx⟩
theorem Un.kept (k:∀b u,h.get? b=some u→h'.get? b=some u):Un fs ex H H h h':=
 ⟨fun b ob q _ _ _=>k b ob q,fun b ob q _ _ _=>⟨ob.slots,k b ob q⟩,fun _ _ _ n _=>n,fun b ob q _=>⟨ob,k b ob q⟩,fun _ _ q=>q,fun _ _ _ q=>q,fun _ ps q=>⟨#[],by rw [q];simp⟩⟩
theorem Un.refl:Un fs ex H H h h:=Un.kept fun _ _ q=>q
theorem Un.laid (k:∀b u,h.get? b=some u→h'.get? b=some u) (hp:h.objs.size≤a) (hn:H a=none):Un fs ex H (upd H a o) h h' where
 keep:=fun b u q _ _ _=>k b u q
 slot:=fun b u q _ _ _=>⟨u.slots,k b u q⟩
 free:=fun b u q n _=>by rw [zi (Nat.ne_of_lt (Nat.lt_of_lt_of_le (Heap.lt_size q) hp))];exact n
 there:=fun b u q _=>⟨u,k b u q⟩
 tups:=fun b xs q=>by rw [zi (zk q hn)];exact q
 frzs:=fun b u xs q=>by rw [zi (zk q hn)];exact q
 tbls:=fun b ps q=>⟨#[],by rw [zi (zk q hn),q];simp⟩
theorem Un.write (mu:Mut (H x)) (he:e=x∨H e=some (.own x)) (k:∀b u,b≠e→h.get? b=some u→h'.get? b=some u) (heo:∃u,h'.get? e=some u):Un fs ex H (upd H x o) h h':=by
 have hx:∀b,H b=none→b≠x:=fun b n z=>by subst z;rw [n] at mu;exact mu
 have hb:∀b,H b=none→b≠e:=fun b n z=>by
  subst z
  rcases he with r|r
  ·exact hx b n r
  ·rw [n] at r;cases r
 have hm:∀b u,H b=some u→¬Mut (some u)→b≠x:=fun b u q nm z=>by subst z;rw [q] at mu;exact nm mu
 refine ⟨fun b u q n _ _=>k b u (hb b n) q,fun b u q n _ _=>⟨u.slots,k b u (hb b n) q⟩,fun b u q n _=>by rw [zi (hx b n)];exact n,fun b u q _=>?_,
  fun b xs q=>by rw [zi (hm b _ q fun z=>z)];exact q,fun b u xs q=>by rw [zi (hm b _ q fun z=>z)];exact q,fun b ps q=>⟨#[],by rw [zi (hm b _ q fun z=>z),q];simp⟩⟩
 by_cases hbe:b=e
 ·subst hbe;exact heo
 ·exact ⟨u,k b u hbe q⟩
end
def trk (h:Heap) (H:Hp):List Addr:=(List.range h.objs.size).filter fun a=>(H a).isSome
def zZh (h:Heap) (H:Hp):Heap:=PySem.W.hideAll h (trk h H)
theorem z9x (h:Heap) (H:Hp):(zZh h H).objs.size=h.objs.size:=PySem.W.hideAll_size _ _
theorem zCz {h:Heap} {H:Hp} {b:Addr} {o:Obj} (e:h.get? b=some o) (n:H b=none):(zZh h H).get? b=some o:=
 PySem.W.hideAll_get _ e fun hm=>by
  have q:(H b).isSome=true:=(List.mem_filter.mp hm).2
  rw [n] at q;simp at q
theorem zHA {h:Heap} {H:Hp} {b:Addr} {o:Obj} (e:(zZh h H).get? b=some o):h.get? b=some o∧H b=none:=by
 have e':h.get? b=some o:=PySem.W.of_hideAll (trk h H) e
 refine ⟨e',?_⟩
 cases q:H b with
 |none=>rfl
 |some x=>
  have hm:b∈trk h H:=List.mem_filter.mpr ⟨List.mem_range.mpr (Heap.lt_size e'),by simp [q]⟩
  have z:(zZh h H).get? b=none:=PySem.W.hideAll_none (trk h H) hm
  rw [z] at e;cases e
end L2
namespace L2
open PySem PySem.Spec PyProof.Rows
structure Mod (K:PySem.W.Frag) (mg:Str→Option Value) (base:Heap):Prop where
 kin:K.In base
 glob:base.Ns mainGlobals mg
 blt:∃mb,base.Ns builtinsNs mb∧∀x:Str,x≠"__name__"→mb x=bootBuiltins x
 nolimit:base.NoLimit
structure Cx where
 prog:Program
 w:World
 K:PySem.W.Frag
 mg:Str→Option Value
 base:Heap
 A:Around
 N:List Str
 s_0:Shared
 H_0:Hp
 env:Env
 outer:List Env
 stack:List Env
 ex:List Addr
 fn:Str→Bool
 calm:Bool
 pn:List (Addr×Obj)
 xe:Value→Shared→Prop
def frs (l:List Env):List Addr:=l.filterMap (·.frame)
abbrev Cx.fs (X:Cx):List Addr:=frs X.outer
def Vis (sc:Scope) (x:Str):Prop:=sc.names.lookup x=some .local∨sc.names.lookup x=some .cell∨sc.names.lookup x=some .free
def Loc (sc:Scope) (x:Str):Prop:=sc.names.lookup x=some .local∨sc.names.lookup x=some .cell
def Look (env:Env) (h:Heap) (m:Str→Option Value) (x:Str) (u:Value):Prop:=
 (env.kindOf x=some .local∧m x=some u)∨((env.kindOf x=some .cell∨env.kindOf x=some .free)∧∃c,env.cells.lookup x=some c∧h.IsCell c (some u))
structure Cx.Ok (X:Cx):Prop where
 mod:Mod X.K X.mg X.base
 kind:X.env.scope.kind=.function
 glob:X.env.globals=mainGlobals
 blt:X.env.builtins=builtinsNs
 above:X.s_0.heap.objs.size≤X.env.locals
 inj:∀x y c,X.env.cells.lookup x=some c→X.env.cells.lookup y=some c→x=y
 has:∀x,(X.env.kindOf x=some .cell∨X.env.kindOf x=some .free)→∃c,X.env.cells.lookup x=some c
 cab:∀x c,X.fn x=true→X.env.cells.lookup x=some c→X.s_0.heap.objs.size≤c
 hd:X.calm=true→X.A.handled=none
 frames:X.A.frames=some X.stack
 stk:X.stack=X.outer∨(X.stack=X.env::X.outer∧X.env.frame=some X.env.locals)
 exf:∀b∈X.ex,b≠X.env.locals∧∀x c,X.env.cells.lookup x=some c→c≠b
 bs:∀b o,X.base.get? b=some o→X.s_0.heap.get? b=some o∧X.H_0 b=none
 bsz:X.base.objs.size≤X.s_0.heap.objs.size
 noex:∀b o,X.base.get? b=some o→b∉X.ex
 exfs:∀b∈X.ex,b∉X.fs
 funs:X.s_0.heap.FunFrames X.base X.outer
 frf:∀b∈X.fs,X.H_0 b=none
structure Inv (X:Cx) (pins:List (Addr×Obj)) (σ:List (Option V)) (H:Hp) (s:Shared):Prop where
 ok:X.Ok
 os:s.os=X.s_0.os
 bare:AllBare s.gens
 base:Un X.fs X.ex X.H_0 H X.s_0.heap s.heap
 loc:∃m,s.heap.Ns X.env.locals m∧∀(i:Nat) (x:Str) (v:V),X.N[i]?=some x→σ[i]?=some (some v)→Vis X.env.scope x→∃u,RelV v u∧Look X.env s.heap m x u
 cell:∀x c,X.env.cells.lookup x=some c→∃v,s.heap.IsCell c v
 free:H X.env.locals=none
 freeC:∀x c,X.env.cells.lookup x=some c→H c=none
 pin:∀p∈X.pn++pins,s.heap.get? p.1=some p.2∧H p.1=none∧p.1≠X.env.locals∧p.1∉X.fs∧∀v,p.2.data≠.cell v
 hok:HOk X.prog X.w H s.heap
 len:σ.length=X.N.length
section
variable {X:Cx} {pins:List (Addr×Obj)} {σ:List (Option V)} {H H':Hp} {s:Shared} {h':Heap}
theorem Cx.Ok.nofr (ok:X.Ok) {b:Addr} {o:Obj} (e:X.base.get? b=some o):b∉X.fs:=fun hb=>by
 have:=(ok.funs.mem hb).1
 rw [e] at this;cases this
theorem Inv.bs (I:Inv X pins σ H s):∀b o,X.base.get? b=some o→s.heap.get? b=some o∧H b=none:=fun b o e=>
 ⟨I.base.keep b o (I.ok.bs b o e).1 (I.ok.bs b o e).2 (I.ok.nofr e) (I.ok.noex b o e),I.base.free b o (I.ok.bs b o e).1 (I.ok.bs b o e).2 (I.ok.noex b o e)⟩
theorem Inv.bk (I:Inv X pins σ H s):∀b o,X.base.get? b=some o→s.heap.get? b=some o:=fun b o e=>(I.bs b o e).1
theorem Inv.mod (I:Inv X pins σ H s):Mod X.K X.mg X.base:=I.ok.mod
theorem Inv.kIn (I:Inv X pins σ H s):X.K.In s.heap:=I.ok.mod.kin.keeps I.bk
theorem Inv.nolimit (I:Inv X pins σ H s):s.heap.NoLimit:=I.ok.mod.nolimit.keeps I.bk
theorem Inv.fr (I:Inv X pins σ H s):∃m,Fr X.base X.env.locals s.heap m:=
 let ⟨m,hn,_⟩:=I.loc
 ⟨m,hn,I.bk,Nat.le_trans I.ok.bsz I.ok.above⟩
theorem Inv.lt (I:Inv X pins σ H s):X.env.locals < s.heap.objs.size:=let ⟨_,hn,_⟩:=I.loc;hn.lt
theorem Inv.sz (I:Inv X pins σ H s):X.s_0.heap.objs.size≤s.heap.objs.size:=Nat.le_trans I.ok.above (Nat.le_of_lt I.lt)
theorem Inv.nofs (I:Inv X pins σ H s) {a:Addr} (h:s.heap.objs.size≤a):a∉X.fs:=fun hb=>by
 obtain ⟨_,o,ho,_⟩:=I.ok.funs.mem hb
 exact absurd (Nat.lt_of_lt_of_le (Heap.lt_size ho) (Nat.le_trans I.sz h)) (Nat.lt_irrefl _)
theorem Inv.cne (I:Inv X pins σ H s):∀x c,X.env.cells.lookup x=some c→c≠X.env.locals:=fun x c e z=>by
 obtain ⟨v,o,ho,hd⟩:=I.cell x c e
 obtain ⟨m,⟨o',es,ep,ho',hd',_⟩,_⟩:=I.loc
 rw [z,ho'] at ho;cases ho;rw [hd'] at hd;cases hd
theorem Inv.funs (I:Inv X pins σ H s):s.heap.FunFrames X.base X.outer:=by
 have all:∀(l:List Env),(∀b∈frs l,b∈X.fs)→X.s_0.heap.FunFrames X.base l→s.heap.FunFrames X.base l:=by
  intro l
  induction l with
  |nil=>intro _ _;trivial
  |cons env r ih=>
   intro hs hl
   obtain ⟨hk,⟨L,o,hf,hn,ho,hd⟩,hr⟩:=hl
   have hL:L∈X.fs:=hs L (by unfold frs;rw [List.filterMap_cons,hf];exact List.mem_cons_self)
   obtain ⟨sl,e⟩:=I.base.slot L o ho (I.ok.frf L hL) hL fun z=>I.ok.exfs L z hL
   exact ⟨hk,⟨L,_,hf,hn,e,hd⟩,ih (fun b hb=>hs b (by unfold frs;rw [List.filterMap_cons,hf];exact List.mem_cons_of_mem _ hb)) hr⟩
 exact all X.outer (fun _ hb=>hb) I.ok.funs
theorem Inv.stack (I:Inv X pins σ H s):s.heap.FunFrames X.base X.stack:=by
 rcases I.ok.stk with e|⟨e,hf⟩
 ·rw [e];exact I.funs
 ·rw [e]
  obtain ⟨m,hn,_⟩:=I.loc
  refine .cons (by rw [I.ok.kind];decide) hf hn ?_ I.funs
  exact Heap.get?_none_of_le (Nat.le_trans I.ok.bsz I.ok.above)
theorem Inv.stkSub (I:Inv X pins σ H s):∀b∈frs X.stack,b∈X.env.locals::X.fs:=fun b hb=>by
 rcases I.ok.stk with e|⟨e,hf⟩
 ·rw [e] at hb;exact List.mem_cons_of_mem _ hb
 ·rw [e] at hb
  unfold frs at hb
  rw [List.filterMap_cons,hf] at hb
  exact hb
theorem Inv.stkFree (I:Inv X pins σ H s):∀b∈frs X.stack,H b=none:=fun b hb=>by
 rcases List.mem_cons.mp (I.stkSub b hb) with e|hb
 ·rw [e];exact I.free
 ·obtain ⟨_,o,ho,_⟩:=I.ok.funs.mem hb
  exact I.base.free b o ho (I.ok.frf b hb) fun z=>I.ok.exfs b z hb
theorem Inv.step {g':Array GenState} {t':Nat} {d':Drawn} {ch:List Addr} (I:Inv X pins σ H s)
  (hch:∀b∈ch,(b∈X.ex∨X.s_0.heap.objs.size≤b)∧b≠X.env.locals∧(∀x c,X.env.cells.lookup x=some c→c≠b)∧∀p∈X.pn++pins,p.1≠b)
  (keep:∀b o,b≠X.env.locals→b∉X.fs→b∉ch→s.heap.get? b=some o→H b=none→h'.get? b=some o)
  (slot:∀b o,b≠X.env.locals→b∈X.fs→b∉ch→s.heap.get? b=some o→H b=none→∃sl,h'.get? b=some { o with slots:=sl }) (free:∀b o,b∉ch→s.heap.get? b=some o→H b=none→H' b=none)
  (there:∀b o,b∉ch→s.heap.get? b=some o→∃o',h'.get? b=some o')
  (tups:∀b xs,H b=some (.tup xs)→H' b=some (.tup xs)) (frzs:∀b o u,H b=some (.frz o u)→H' b=some (.frz o u)) (tbls:∀b ps,H b=some (.tbl ps)→∃more,H' b=some (.tbl (ps++more)))
  (ns:∀m,s.heap.Ns X.env.locals m→h'.Ns X.env.locals m) (hok:HOk X.prog X.w H' h') (hg:AllBare g'):
  Inv X pins σ H' { s with heap:=h',gens:=g',drawn:=d',toks:=t' }:=by
 have neL:∀b o,X.s_0.heap.get? b=some o→b≠X.env.locals:=fun b o e=>Nat.ne_of_lt (Nat.lt_of_lt_of_le (Heap.lt_size e) I.ok.above)
 have neC:∀b o,X.s_0.heap.get? b=some o→b∉X.ex→b∉ch:=fun b o e hx hb=>by
  rcases (hch b hb).1 with z|z
  ·exact hx z
  ·exact absurd (Nat.lt_of_lt_of_le (Heap.lt_size e) z) (Nat.lt_irrefl _)
 have cellK:∀x c,X.env.cells.lookup x=some c→∀v,s.heap.IsCell c v→h'.IsCell c v:=fun x c e v ⟨o,ho,hd⟩=>by
  have nch:c∉ch:=fun z=>(hch c z).2.2.1 x c e rfl
  by_cases hc:c∈X.fs
  ·obtain ⟨sl,q⟩:=slot c o (I.cne x c e) hc nch ho (I.freeC x c e)
   exact ⟨_,q,hd⟩
  ·exact ⟨o,keep c o (I.cne x c e) hc nch ho (I.freeC x c e),hd⟩
 refine ⟨I.ok,I.os,hg,⟨fun b o e n hb hx=>?_,fun b o e n hb hx=>?_,fun b o e n hx=>?_,fun b o e hx=>?_,fun b xs e=>tups b xs (I.base.tups b xs e),fun b o xs e=>frzs b o xs (I.base.frzs b o xs e),fun b ps e=>?_⟩,?_,fun x c e=>?_,?_,fun x c e=>?_,fun p hp=>?_,hok,I.len⟩
 ·exact keep b o (neL b o e) hb (neC b o e hx) (I.base.keep b o e n hb hx) (I.base.free b o e n hx)
 ·obtain ⟨sl,e1⟩:=I.base.slot b o e n hb hx
  obtain ⟨sl',e2⟩:=slot b _ (neL b o e) hb (neC b o e hx) e1 (I.base.free b o e n hx)
  exact ⟨sl',e2⟩
 ·obtain ⟨o',e1⟩:=I.base.there b o e hx
  exact free b o' (neC b o e hx) e1 (I.base.free b o e n hx)
 ·obtain ⟨o',e1⟩:=I.base.there b o e hx
  exact there b o' (neC b o e hx) e1
 ·obtain ⟨m1,e1⟩:=I.base.tbls b ps e
  obtain ⟨m2,e2⟩:=tbls b _ e1
  exact ⟨m1++m2,by rw [e2,Array.append_assoc]⟩
 ·obtain ⟨m,hn,hl⟩:=I.loc
  refine ⟨m,ns m hn,fun i x v e1 e2 e3=>?_⟩
  obtain ⟨u,r,l⟩:=hl i x v e1 e2 e3
  refine ⟨u,r,?_⟩
  rcases l with l|⟨k,c,e,z⟩
  ·exact .inl l
  ·exact .inr ⟨k,c,e,cellK x c e _ z⟩
 ·obtain ⟨v,z⟩:=I.cell x c e
  exact ⟨v,cellK x c e v z⟩
 ·obtain ⟨m,⟨o,_,_,ho,_⟩,_⟩:=I.loc
  exact free _ o (fun z=>(hch _ z).2.1 rfl) ho I.free
 ·obtain ⟨v,o,ho,hd⟩:=I.cell x c e
  exact free c o (fun z=>(hch c z).2.2.1 x c e rfl) ho (I.freeC x c e)
 ·obtain ⟨e,n,ne,nf,d⟩:=I.pin p hp
  have nch:p.1∉ch:=fun z=>(hch p.1 z).2.2.2 p hp rfl
  exact ⟨keep p.1 p.2 ne nf nch e n,free p.1 p.2 nch e n,ne,nf,d⟩
theorem Inv.un {t':Nat} (I:Inv X pins σ H s) (u:Un X.fs [] H H' s.heap h') (hok:HOk X.prog X.w H' h'):Inv X pins σ H' { s with heap:=h',toks:=t' }:=by
 obtain ⟨m,⟨o,es,ep,ho,r⟩,_⟩:=id I.loc
 obtain ⟨sl,hL⟩:=u.any ho I.free (by simp)
 exact I.step (g':=s.gens) (d':=s.drawn) (ch:=[]) (fun _ z=>nomatch z) (fun b o _ hb _ e n=>u.keep b o e n hb (by simp)) (fun b o _ hb _ e n=>u.slot b o e n hb (by simp)) (fun b o _ e n=>u.free b o e n (by simp)) (fun b o _ e=>u.there b o e (by simp)) u.tups u.frzs u.tbls (fun m' hm=>by
  obtain ⟨o',es',ep',ho',r'⟩:=hm
  rw [ho] at ho';cases ho'
  exact ⟨_,es',ep',hL,r'⟩) hok I.bare
theorem Inv.call {g':Array GenState} {t':Nat} {d':Drawn} {ch:List Addr} (I:Inv X pins σ H s) (u:Un (frs X.stack) ch H H' s.heap h') (hok:HOk X.prog X.w H' h') (hg:AllBare g')
  (hch:∀b∈ch,(b∈X.ex∨X.s_0.heap.objs.size≤b)∧b≠X.env.locals∧(∀x c,X.env.cells.lookup x=some c→c≠b)∧∀p∈X.pn++pins,p.1≠b):
  Inv X pins σ H' { s with heap:=h',gens:=g',drawn:=d',toks:=t' }:=by
 obtain ⟨m,⟨o,es,ep,ho,r⟩,_⟩:=id I.loc
 obtain ⟨sl,hL⟩:=u.any ho I.free fun z=>(hch _ z).2.1 rfl
 exact I.step (ch:=ch) hch (fun b o hL hb hc e n=>u.keep b o e n (fun z=>(List.mem_cons.mp (I.stkSub b z)).elim hL hb) hc) (fun b o _ _ hc e n=>u.any e n hc) (fun b o hc e n=>u.free b o e n hc) (fun b o hc e=>u.there b o e hc) u.tups u.frzs u.tbls (fun m' hm=>by
  obtain ⟨o',es',ep',ho',r'⟩:=hm
  rw [ho] at ho';cases ho'
  exact ⟨_,es',ep',hL,r'⟩) hok hg
theorem Inv.turned {t':Nat} {it:Addr} (I:Inv X pins σ H s) (k:∀b o,b≠it→s.heap.get? b=some o→h'.get? b=some o) (hn:H it=none) (hL:it≠X.env.locals)
  (h1:it∈X.ex∨X.s_0.heap.objs.size≤it) (h2:∀x c,X.env.cells.lookup x=some c→c≠it) (h3:∀p∈X.pn++pins,p.1≠it):Inv X pins σ H { s with heap:=h',toks:=t' }:=by
 have nit:∀b u,H b=some u→b≠it:=fun b u e z=>by rw [z,hn] at e;cases e
 refine I.step (g':=s.gens) (d':=s.drawn) (ch:=[it]) (fun b hb=>?_) (fun b o _ _ hc e _=>k b o (fun z=>hc (by simp [z])) e) (fun b o _ _ hc e _=>⟨o.slots,k b o (fun z=>hc (by simp [z])) e⟩) (fun _ _ _ _ n=>n)
  (fun b o hc e=>⟨o,k b o (fun z=>hc (by simp [z])) e⟩) (fun _ _ e=>e) (fun _ _ _ e=>e) (fun b ps e=>⟨#[],by rw [e];simp⟩) (fun m hm=>?_) (fun b u e=>?_) I.bare
 ·have e:b=it:=by simpa using hb
  subst e
  exact ⟨h1,hL,h2,h3⟩
 ·obtain ⟨o,es,ep,ho,r⟩:=hm
  exact ⟨o,es,ep,k _ o (Ne.symm hL) ho,r⟩
 ·refine (I.hok b u e).stay (fun c v hc q=>k c v ?_ q) (fun _ q=>q) fun _ _ q=>q
  rcases hc with z|z
  ·rw [z];exact nit b u e
  ·exact nit c _ z
theorem Inv.tok (I:Inv X pins σ H s) (t:Nat):Inv X pins σ H { s with toks:=t }:=I.un (h':=s.heap) (t':=t) Un.refl I.hok
theorem Inv.kept {t':Nat} (I:Inv X pins σ H s) (k:∀b u,s.heap.get? b=some u→h'.get? b=some u):Inv X pins σ H { s with heap:=h',toks:=t' }:=I.un (Un.kept k) (I.hok.kept k)
theorem Inv.laid {a:Addr} {o:HO} {t':Nat} (I:Inv X pins σ H s) (k:∀b u,s.heap.get? b=some u→h'.get? b=some u) (hp:s.heap.objs.size≤a) (new:zzb X.prog X.w (upd H a o) h' a o):
  Inv X pins σ (upd H a o) { s with heap:=h',toks:=t' }:=I.un (Un.laid k hp (I.hok.fresh hp)) (I.hok.laid k hp new)
theorem Inv.write {x e:Addr} {o:HO} {t':Nat} (I:Inv X pins σ H s) (mu:Mut (H x)) (he:e=x∨H e=some (.own x)) (k:∀b u,b≠e→s.heap.get? b=some u→h'.get? b=some u) (heo:∃u,h'.get? e=some u)
  (new:zzb X.prog X.w (upd H x o) h' x o):Inv X pins σ (upd H x o) { s with heap:=h',toks:=t' }:=I.un (Un.write mu he k heo) (I.hok.write mu he k heo new)
theorem Inv.weak {σ':List (Option V)} (I:Inv X pins σ H s) (hl:σ'.length=σ.length) (w:∀(i:Nat) v,σ'[i]?=some (some v)→σ[i]?=some (some v)):Inv X pins σ' H s:=
 ⟨I.ok,I.os,I.bare,I.base,let ⟨m,hn,hl'⟩:=I.loc;⟨m,hn,fun i x v e1 e2 e3=>hl' i x v e1 (w i v e2) e3⟩,I.cell,I.free,I.freeC,I.pin,I.hok,hl.trans I.len⟩
theorem Inv.pins_of {pins':List (Addr×Obj)} (I:Inv X pins σ H s) (h:∀p∈pins',s.heap.get? p.1=some p.2∧H p.1=none∧p.1≠X.env.locals∧p.1∉X.fs∧∀v,p.2.data≠.cell v):Inv X pins' σ H s:=
 ⟨I.ok,I.os,I.bare,I.base,I.loc,I.cell,I.free,I.freeC,fun p hp=>(List.mem_append.mp hp).elim (fun z=>I.pin p (List.mem_append_left _ z)) (h p),I.hok,I.len⟩
theorem zXo {N:List Str} (hN:N.Nodup) {i j:Nat} {x:Str} (a:N[i]?=some x) (b:N[j]?=some x):i=j:=by
 obtain ⟨h1,e1⟩:=List.getElem?_eq_some_iff.mp a
 obtain ⟨h2,e2⟩:=List.getElem?_eq_some_iff.mp b
 exact (List.getElem_inj hN).mp (e1.trans e2.symm)
theorem zsr {M:Model} {A:Around} {E:Value→Shared→Prop} {i:Nat} {x:Str} {v:V} {u:Value} {Q:Unit→Shared→Prop} (I:Inv X pins σ H s) (hN:X.N.Nodup) (hi:X.N[i]?=some x) (hx:Loc X.env.scope x) (r:RelV v u)
  (h:∀s',Inv X pins (σ.set i (some v)) H s'→(∃a,Heap.SameBut a s.heap s'.heap∧(a=X.env.locals∨X.env.cells.lookup x=some a))→Q () s') (hf:X.fn x=true∨X.env.scope.names.lookup x=some .local:=by first|exact .inl rfl|exact .inr rfl|assumption):wpAny M A (storeName X.env x u) Q E s:=by
 obtain ⟨m,hn,hl⟩:=id I.loc
 have hcls:(X.env.scope.kind==.class||(X.env.scope.kind==.module&&X.env.locals != X.env.globals))=false:=by rw [I.ok.kind];rfl
 have hiσ:i < σ.length:=by rw [I.len];exact (List.getElem?_eq_some_iff.mp hi).1
 have cne:=I.cne
 have tracked:∀{a:Addr} {h':Heap},(∃o,s.heap.get? a=some o∧H a=none)→Heap.SameBut a s.heap h'→HOk X.prog X.w H h':=fun {a h'} ha hs b ob e=>by
  obtain ⟨_,_,hfree⟩:=ha
  refine (I.hok b ob e).stay (fun c w' hc q=>(hs.2 c ?_).trans q) (fun _ q=>q) fun _ _ q=>q
  rintro rfl
  rcases hc with rfl|hc
  ·rw [hfree] at e;cases e
  ·rw [hfree] at hc;cases hc
 rcases hx with hk|hk
 ·refine wpAny_storeName_local hk hn (fun h' hn' hs=>?_) hcls
  obtain ⟨oL,_,_,hoL,_⟩:=id hn
  refine h _ ⟨I.ok,I.os,I.bare,⟨fun b o e n hb hx=>?_,fun b o e n hb hx=>?_,I.base.free,fun b o e hx=>?_,I.base.tups,I.base.frzs,I.base.tbls⟩,⟨_,hn',fun j y v' e1 e2 e3=>?_⟩,fun y c e=>?_,I.free,I.freeC,fun p hp=>?_,tracked ⟨oL,hoL,I.free⟩ hs,by simpa using I.len⟩ ⟨_,hs,.inl rfl⟩
  ·exact (hs.2 b (Nat.ne_of_lt (Nat.lt_of_lt_of_le (Heap.lt_size e) I.ok.above))).trans (I.base.keep b o e n hb hx)
  ·obtain ⟨sl,e1⟩:=I.base.slot b o e n hb hx
   exact ⟨sl,(hs.2 b (Nat.ne_of_lt (Nat.lt_of_lt_of_le (Heap.lt_size e) I.ok.above))).trans e1⟩
  ·obtain ⟨o',e1⟩:=I.base.there b o e hx
   exact ⟨o',(hs.2 b (Nat.ne_of_lt (Nat.lt_of_lt_of_le (Heap.lt_size e) I.ok.above))).trans e1⟩
  ·by_cases hj:j=i
   ·subst hj
    rw [hi] at e1;cases e1
    rw [List.getElem?_set_self hiσ] at e2
    cases e2
    exact ⟨u,r,.inl ⟨hk,by simp⟩⟩
   ·rw [List.getElem?_set_ne (Ne.symm hj)] at e2
    obtain ⟨u',r',q⟩:=hl j y v' e1 e2 e3
    refine ⟨u',r',?_⟩
    rcases q with ⟨k,e⟩|⟨k,c,e,z⟩
    ·refine .inl ⟨k,?_⟩
     have:y≠x:=fun e=>hj (zXo hN e1 (e ▸ hi))
     simp [this,e]
    ·exact .inr ⟨k,c,e,z.sameBut hs (cne y c e)⟩
  ·obtain ⟨w',z⟩:=I.cell y c e
   exact ⟨w',z.sameBut hs (cne y c e)⟩
  ·obtain ⟨e,n,ne,nf,d⟩:=I.pin p hp
   exact ⟨(hs.2 p.1 ne).trans e,n,ne,nf,d⟩
 ·have hfn:X.fn x=true:=by
   rcases hf with z|z
   ·exact z
   ·rw [z] at hk;cases hk
  obtain ⟨c,hc⟩:=I.ok.has x (.inl hk)
  obtain ⟨w',z⟩:=I.cell x c hc
  refine wpAny_storeName_cell I.ok.kind hk hc z (fun h' hc' hs=>?_)
  obtain ⟨oc,hoc,hocd⟩:=id z
  refine h { s with heap:=h' } ⟨I.ok,I.os,I.bare,⟨fun b o e n hb hx=>?_,fun b o e n hb hx=>?_,I.base.free,fun b o e hx=>?_,I.base.tups,I.base.frzs,I.base.tbls⟩,⟨m,hn.sameBut hs (Ne.symm (cne x c hc)),fun j y v' e1 e2 e3=>?_⟩,fun y c' e=>?_,I.free,I.freeC,fun p hp=>?_,tracked ⟨oc,hoc,I.freeC x c hc⟩ hs,by simpa using I.len⟩ ⟨c,hs,.inr hc⟩
  ·exact (hs.2 b (Nat.ne_of_lt (Nat.lt_of_lt_of_le (Heap.lt_size e) (I.ok.cab x c hfn hc)))).trans (I.base.keep b o e n hb hx)
  ·obtain ⟨sl,e1⟩:=I.base.slot b o e n hb hx
   exact ⟨sl,(hs.2 b (Nat.ne_of_lt (Nat.lt_of_lt_of_le (Heap.lt_size e) (I.ok.cab x c hfn hc)))).trans e1⟩
  ·obtain ⟨o',e1⟩:=I.base.there b o e hx
   exact ⟨o',(hs.2 b (Nat.ne_of_lt (Nat.lt_of_lt_of_le (Heap.lt_size e) (I.ok.cab x c hfn hc)))).trans e1⟩
  ·by_cases hj:j=i
   ·subst hj
    rw [hi] at e1;cases e1
    rw [List.getElem?_set_self hiσ] at e2
    cases e2
    exact ⟨u,r,.inr ⟨.inl hk,c,hc,hc'⟩⟩
   ·rw [List.getElem?_set_ne (Ne.symm hj)] at e2
    obtain ⟨u',r',q⟩:=hl j y v' e1 e2 e3
    refine ⟨u',r',?_⟩
    rcases q with q|⟨k,c',e,z'⟩
    ·exact .inl q
    ·refine .inr ⟨k,c',e,z'.sameBut hs ?_⟩
     rintro rfl
     exact hj (zXo hN e1 (I.ok.inj _ _ _ e hc ▸ hi))
  ·by_cases hcc:c'=c
   ·subst hcc;exact ⟨_,hc'⟩
   ·obtain ⟨w2,z2⟩:=I.cell y c' e
    exact ⟨w2,z2.sameBut hs hcc⟩
  ·obtain ⟨e,n,ne,nf,d⟩:=I.pin p hp
   refine ⟨(hs.2 p.1 ?_).trans e,n,ne,nf,d⟩
   intro q
   rw [q,hoc] at e
   have q':oc=p.2:=Option.some.inj e
   exact d w' (by rw [←q'];exact hocd)
theorem zzo {M:Model} {A:Around} {E:Value→Shared→Prop} {i:Nat} {x:Str} {v:V} {u:Value} {Q:Unit→Shared→Prop} (I:Inv X pins σ H s) (hN:X.N.Nodup) (hi:X.N[i]?=some x) (hx:Loc X.env.scope x) (r:RelV v u)
  (h:∀s',Inv X pins (σ.set i (some v)) H s'→Q () s') (hf:X.fn x=true∨X.env.scope.names.lookup x=some .local:=by first|exact .inl rfl|exact .inr rfl|assumption):wpAny M A (storeName X.env x u) Q E s:=
 zsr I hN hi hx r (fun s' I' _=>h s' I') hf
theorem Inv.call' {s':Shared} {ch:List Addr} (I:Inv X pins σ H s) (ho:s'.os=s.os) (u:Un (frs X.stack) ch H H' s.heap s'.heap) (hok:HOk X.prog X.w H' s'.heap) (hg:AllBare s'.gens)
  (hch:∀b∈ch,(b∈X.ex∨X.s_0.heap.objs.size≤b)∧b≠X.env.locals∧(∀x c,X.env.cells.lookup x=some c→c≠b)∧∀p∈X.pn++pins,p.1≠b):Inv X pins σ H' s':=by
 obtain ⟨h',g',d',t',o'⟩:=s'
 have e:o'=s.os:=ho
 subst e
 exact I.call (g':=g') (t':=t') (d':=d') u hok hg hch
end
abbrev XK:=Value→Option Addr→Hp→Prop
abbrev St:=List (Option V)
abbrev VK:=V→Hp→Prop
abbrev TE:=St→Hp→VK→Prop
abbrev TT:=St→Hp→(Bool→Hp→Prop)→Prop
abbrev TA:=St→Hp→(List V→Hp→Prop)→Prop
structure Ends where
 nx:St→Hp→Prop
 rt:VK
 bk:St→Hp→Prop:=fun _ _=>False
 ct:St→Hp→Prop:=fun _ _=>False
abbrev TS:=Ends→St→Hp→Prop
def EP (X:Cx) (pins:List (Addr×Obj)) (σ:St) (Q:VK) (u:Value) (s':Shared):Prop:=∃v H',Inv X pins σ H' s'∧RelV v u∧Q v H'
def TP (X:Cx) (pins:List (Addr×Obj)) (σ:St) (Q:Bool→Hp→Prop) (b:Bool) (s':Shared):Prop:=∃H',Inv X pins σ H' s'∧Q b H'
def AP (X:Cx) (pins:List (Addr×Obj)) (σ:St) (Q:List V→Hp→Prop) (us:List Value) (s':Shared):Prop:=∃vs H',Inv X pins σ H' s'∧Vals vs us∧Q vs H'
def SP (X:Cx) (pins:List (Addr×Obj)) (D:Ends) (f:Flow) (s':Shared):Prop:=
 match f with
 |.next=>∃σ' H',Inv X pins σ' H' s'∧D.nx σ' H'
 |.brk=>∃σ' H',Inv X pins σ' H' s'∧D.bk σ' H'
 |.cont=>∃σ' H',Inv X pins σ' H' s'∧D.ct σ' H'
 |.ret u=>∃v σ' H',Inv X pins σ' H' s'∧RelV v u∧D.rt v H'
def PE (X:Cx) (e:Expr) (t:TE):Prop:=
 ∀(pins:List (Addr×Obj)) (s:Shared) (σ:St) (H:Hp) (Q:VK),Inv X pins σ H s→t σ H Q→wpAny (model X.prog X.w) X.A (eval e X.env) (EP X pins σ Q) X.xe s
def PT (X:Cx) (e:Expr) (t:TT):Prop:=
 ∀(pins:List (Addr×Obj)) (s:Shared) (σ:St) (H:Hp) (Q:Bool→Hp→Prop),Inv X pins σ H s→t σ H Q→wpAny (model X.prog X.w) X.A (isTrue e X.env (eval e X.env)) (TP X pins σ Q) X.xe s
def PW (X:Cx) (e:Expr) (t:TT):Prop:=
 ∀(whole:Sem Value) (pins:List (Addr×Obj)) (s:Shared) (σ:St) (H:Hp) (Q:Bool→Hp→Prop),Inv X pins σ H s→t σ H Q→wpAny (model X.prog X.w) X.A (isTrue e X.env whole) (TP X pins σ Q) X.xe s
theorem PW.pt {X:Cx} {e:Expr} {t:TT} (h:PW X e t):PT X e t:=h _
def PA (X:Cx) (es:List Expr) (t:TA):Prop:=
 ∀(pos:Pos) (pins:List (Addr×Obj)) (s:Shared) (σ:St) (H:Hp) (Q:List V→Hp→Prop),Inv X pins σ H s→t σ H Q→wpAny (model X.prog X.w) X.A (spliced (backTo pos (starEach es X.env))) (AP X pins σ Q) X.xe s
def PS (X:Cx) (st:Stmt) (t:TS):Prop:=
 ∀(pins:List (Addr×Obj)) (s:Shared) (σ:St) (H:Hp) (D:Ends),Inv X pins σ H s→t D σ H→wpAny (model X.prog X.w) X.A (exec st X.env) (SP X pins D) X.xe s
def PSs (X:Cx) (st:List Stmt) (t:TS):Prop:=
 ∀(pins:List (Addr×Obj)) (s:Shared) (σ:St) (H:Hp) (D:Ends),Inv X pins σ H s→t D σ H→wpAny (model X.prog X.w) X.A (execs st X.env) (SP X pins D) X.xe s
theorem thn {α:Type} {t:Sem α} {Q Q':α→Shared→Prop} {M:Model} {A:Around} {E:Value→Shared→Prop} {s:Shared} (h:wpAny M A t Q E s) (hQ:∀a s,Q a s→Q' a s):wpAny M A t Q' E s:=wpAny_mono h hQ fun _ _ x=>x
end L2
namespace L2
open PySem PySem.Spec PyProof.Rows
section
variable {X:Cx}
theorem bin {a b:Expr} {ta tb:TE} (ha:PE X a ta) (hb:PE X b tb) {pins:List (Addr×Obj)} {s:Shared} {σ:St} {H:Hp} {R:V→V→Hp→Prop} (I:Inv X pins σ H s) (h:ta σ H fun x H1=>tb σ H1 fun y H2=>R x y H2)
  {α:Type} {Q:α→Shared→Prop} {f:Value→Value→Sem α}
  (hf:∀v u s2 x y H2,Inv X pins σ H2 s2→RelV x v→RelV y u→R x y H2→wpAny (model X.prog X.w) X.A (f v u) Q X.xe s2):
  wpAny (model X.prog X.w) X.A (eval a X.env) (fun v s₁=>wpAny (model X.prog X.w) X.A (eval b X.env) (fun u s₂=>wpAny (model X.prog X.w) X.A (f v u) Q X.xe s₂) X.xe s₁) X.xe s:=by
 refine thn (ha pins s σ H _ I h) fun v s1 ⟨x,H1,I1,r1,q1⟩=>?_
 refine thn (hb pins s1 σ H1 _ I1 q1) fun u s2 ⟨y,H2,I2,r2,q2⟩=>?_
 exact hf v u s2 x y H2 I2 r1 r2 q2
def zAb (i:Nat):TE:=fun σ H Q=>∃v,σ[i]?=some (some v)∧Q v H
def tC (v:V):TE:=fun _ H Q=>Q v H
theorem zXB {i:Nat} {x:Str} {pos:Pos} (hN:X.N[i]?=some x) (hv:Vis X.env.scope x) (hd:(x==("__debug__":Str))=false:=by decide) (hcd:(x==("__classdict__":Str))=false:=by decide):PE X (.Name x pos) (zAb i):=by
 intro pins s σ H Q I h
 obtain ⟨v,e,h⟩:=h
 obtain ⟨m,hn,hl⟩:=I.loc
 obtain ⟨u,r,l⟩:=hl i x v hN e hv
 have fin:EP X pins σ Q u s:=⟨v,H,I,r,h⟩
 rcases l with ⟨hk,hm⟩|⟨hk,c,hc,hcell⟩
 ·exact wpAny_Name (wpAny_loadName_local I.ok.kind hk hn hm fin) hd
 ·rcases hk with hk|hk
  ·exact wpAny_Name (wpAny_loadName_cell I.ok.kind hk hc hcell fin) hd
  ·exact wpAny_Name (wpAny_loadName_free I.ok.kind hk hc hcell fin hcd) hd
theorem zm {i j pos}:PE X (.Constant (.int i) j pos) (tC (.int i)):=fun _ _ _ H _ I h=>wpAny_Constant_int ⟨.int i,H,I.tok _,⟨_,rfl⟩,h⟩
theorem zYk {b j pos}:PE X (.Constant (.bool b) j pos) (tC (.bl b)):=fun _ _ _ H _ I h=>Constant_bool ⟨.bl b,H,I,rfl,h⟩
def Gl (X:Cx) (x:Str):Prop:=X.env.kindOf x=some .globalImplicit
theorem znn {E:Value→Shared→Prop} {pins:List (Addr×Obj)} {s:Shared} {σ:St} {H:Hp} {x:Str} {u:Value} {pos:Pos} {Q:Value→Shared→Prop} (I:Inv X pins σ H s) (hg:Gl X x) (hm:X.mg x=some u) (h:Q u s)
  (hd:(x==("__debug__":Str))=false:=by decide):wpAny (model X.prog X.w) X.A (eval (.Name x pos) X.env) Q E s:=
 Calls.Name_function_global I.ok.kind hg (Calls.loadGlobal_global (by rw [I.ok.glob];exact I.mod.glob.keeps I.bk) hm h) hd
theorem zRg {E:Value→Shared→Prop} {pins:List (Addr×Obj)} {s:Shared} {σ:St} {H:Hp} {x:Str} {u:Value} {pos:Pos} {Q:Value→Shared→Prop} (I:Inv X pins σ H s) (hg:Gl X x) (hm:X.mg x=none) (hv:bootBuiltins x=some u) (h:Q u s)
  (hn:x≠"__name__":=by decide) (hd:(x==("__debug__":Str))=false:=by decide):wpAny (model X.prog X.w) X.A (eval (.Name x pos) X.env) Q E s:=by
 obtain ⟨mb,h1,h2⟩:=I.mod.blt
 exact Calls.Name_function_global I.ok.kind hg (Calls.loadGlobal_builtin (by rw [I.ok.glob];exact I.mod.glob.keeps I.bk) hm (by rw [I.ok.blt];exact h1.keeps I.bk) ((h2 x hn).trans hv) h) hd
theorem zp {x:Str} {v:V} {u:Value} {pos:Pos} (hg:Gl X x) (hm:X.mg x=some u) (r:RelV v u) (hd:(x==("__debug__":Str))=false:=by decide):PE X (.Name x pos) (tC v):=
 fun _ _ _ H _ I h=>znn I hg hm ⟨v,H,I,r,h⟩ hd
variable {a b:Expr} {ta tb:TE} {pos:Pos}
def PC (X:Cx) (op:CmpOp) (a b:Expr) (t:TE):Prop:=
 ∀(pins:List (Addr×Obj)) (s:Shared) (σ:St) (H:Hp) (Q:VK),Inv X pins σ H s→t σ H Q→
  wpAny (model X.prog X.w) X.A (eval a X.env) (fun v s₁=>wpAny (model X.prog X.w) X.A (eval b X.env) (fun u s₂=>wpAny (model X.prog X.w) X.A (compareOp op v u) (EP X pins σ Q) X.xe s₂) X.xe s₁) X.xe s
theorem z0y (b:Expr) {op:CmpOp} (h:op≠.In) (h2:op≠.NotIn):behindInMarks op b=false:=by
 have e1:(op==CmpOp.In)=false:=by cases op<;>first|rfl|exact absurd rfl h
 have e2:(op==CmpOp.NotIn)=false:=by cases op<;>first|rfl|exact absurd rfl h2
 cases b<;>simp [behindInMarks,e1,e2]
def z3C (ta:TE):TE:=fun σ H Q=>ta σ H fun x H1=>Q (.bl (decide (x=.non))) H1
theorem RelV.none_iff {x:V} {v:Value} (r:RelV x v):(v==Value.none)=decide (x=.non):=by
 cases x with
 |non=>cases r;rfl
 |bl _=>cases r;rfl
 |int _=>obtain ⟨t,rfl⟩:=r;rfl
 |str _=>obtain ⟨t,rfl⟩:=r;rfl
 |byt _=>obtain ⟨t,rfl⟩:=r;rfl
 |flt _=>obtain ⟨t,rfl⟩:=r;rfl
 |ref _=>cases r;rfl
 |ty _=>cases r;rfl
theorem zNB {j pos'} (ha:PE X a ta):PC X .Is a (.Constant .none j pos') (z3C ta):=by
 intro pins s σ H Q I h
 refine thn (ha pins s σ H _ I h) fun v s1 ⟨x,H1,I1,r1,q1⟩=>?_
 exact Constant_none (is_none_gen ⟨.bl _,H1,I1,by rw [r1.none_iff];rfl,q1⟩)
def tB (t:TE):TT:=fun σ H Q=>t σ H fun x H1=>∃c,x=.bl c∧Q c H1
theorem zcp {op:CmpOp} {t:TE} (h:PC X op a b t) (h1:behindInMarks op b=false:=by first|exact z0y _ (by decide) (by decide)|rfl):PT X (.Compare a [op] [b] pos) (tB t):=by
 intro pins s σ H Q I hw
 refine wpAny_isTrue_Compare1 (thn (h pins s σ H _ I hw) fun v s1 h1=>thn h1 fun u s2 h2=>thn h2 fun c s3 ⟨x,H1,I1,r1,q1⟩=>?_) h1
 obtain ⟨d,rfl,q⟩:=q1
 cases r1
 exact wpAny_truthy_bool ⟨H1,I1,q⟩
theorem zyb {e:Expr} {t:TE} (h:PE X e t) (he:∀whole,isTrue e X.env whole=(do let v ←whole;standAt e.pos;holding [v] (truthy v)):=by intro _;rfl):PT X e (tB t):=by
 intro pins s σ H Q I hw
 refine isTrue_plain (thn (h pins s σ H _ I hw) fun v s1 ⟨x,H1,I1,r1,q1⟩=>?_) (he _)
 obtain ⟨d,rfl,q⟩:=q1
 cases r1
 exact wpAny_truthy_bool ⟨H1,I1,q⟩
variable {tA tB':TT} {rest:List Expr}
def zZC (t u:TT):TT:=fun σ H Q=>t σ H fun c H1=>if c=true then u σ H1 Q else Q false H1
def tOr (t u:TT):TT:=fun σ H Q=>t σ H fun c H1=>if c=true then Q true H1 else u σ H1 Q
def zkD (t:TT):TT:=fun σ H Q=>t σ H fun c H1=>Q (!c) H1
theorem zon (ha:PT X a tA):PW X (.BoolOp .And [a] pos) tA:=by
 intro wh pins s σ H Q I h
 refine isTrue_and (thn (ha pins s σ H Q I h) fun c s1 e=>?_)
 cases c with
 |true=>exact isTrue_and_nil e
 |false=>exact e
theorem z3f (ha:PT X a tA):PW X (.BoolOp .Or [a] pos) tA:=by
 intro wh pins s σ H Q I h
 refine isTrue_or (thn (ha pins s σ H Q I h) fun c s1 e=>?_)
 cases c with
 |false=>exact isTrue_or_nil e
 |true=>exact e
theorem z7p (ha:PT X a tA) (hb:PW X (.BoolOp .And (b::rest) pos) tB'):PW X (.BoolOp .And (a::b::rest) pos) (zZC tA tB'):=by
 intro wh pins s σ H Q I h
 refine isTrue_and (thn (ha pins s σ H _ I h) fun c s1 ⟨H1,I1,q1⟩=>?_)
 cases c with
 |true=>exact hb wh pins s1 σ H1 Q I1 q1
 |false=>exact ⟨H1,I1,q1⟩
theorem zBh (ha:PT X a tA) (hb:PW X (.BoolOp .Or (b::rest) pos) tB'):PW X (.BoolOp .Or (a::b::rest) pos) (tOr tA tB'):=by
 intro wh pins s σ H Q I h
 refine isTrue_or (thn (ha pins s σ H _ I h) fun c s1 ⟨H1,I1,q1⟩=>?_)
 cases c with
 |true=>exact ⟨H1,I1,q1⟩
 |false=>exact hb wh pins s1 σ H1 Q I1 q1
theorem zDb (ha:PT X a tA):PT X (.UnaryOp .Not a pos) (zkD tA):=by
 intro pins s σ H Q I h
 exact isTrue_not (ha pins s σ H (fun c H1=>Q (!c) H1) I h)
def zJC (ta tb:TE):TE:=fun σ H Q=>ta σ H fun x H1=>∃c,x=.bl c∧if c=true then tb σ H1 Q else Q (.bl false) H1
theorem z7B {op} {t:TE} (h:PE X a t):PE X (.BoolOp op [a] pos) t:=fun pins s σ H Q I hw=>BoolOp_one (h pins s σ H Q I hw)
theorem zdy (ha:PE X a ta) (hb:PE X (.BoolOp .And (b::rest) pos) tb):PE X (.BoolOp .And (a::b::rest) pos) (zJC ta tb):=by
 intro pins s σ H Q I h
 refine BoolOp_and (thn (ha pins s σ H _ I h) fun v s1 ⟨x,H1,I1,r1,q1⟩=>?_)
 obtain ⟨c,rfl,q1⟩:=q1
 cases r1
 refine wpAny_truthy_bool ?_
 cases c with
 |true=>exact hb pins s1 σ H1 Q I1 q1
 |false=>exact ⟨.bl false,H1,I1,rfl,q1⟩
def tIf (t:TT) (ta tb:TE):TE:=fun σ H Q=>t σ H fun c H1=>if c=true then ta σ H1 Q else tb σ H1 Q
theorem zLz {c:Expr} (hc:PT X c tA) (ha:PE X a ta) (hb:PE X b tb):PE X (.IfExp c a b pos) (tIf tA ta tb):=by
 intro pins s σ H Q I h
 refine wpAny_IfExp (thn (hc pins s σ H _ I h) fun d s1 ⟨H1,I1,q1⟩=>?_)
 cases d with
 |true=>exact ha pins s1 σ H1 Q I1 q1
 |false=>exact hb pins s1 σ H1 Q I1 q1
end
end L2
namespace L2
open PySem PySem.Spec PyProof.Rows
def SqL (K:PySem.W.Frag) (H:Hp) (a:Addr) (xs:List V):Prop:=
 Rd H a (.lst xs)∨
  ∃(o:Obj) (its:Array Value) (n:Nat),K.lookup a=some o∧o.cls=.type "list"∧o.dict=none∧o.data=.seq its n∧its.size≤sizeLine∧Vals xs its.toList
def SqT (K:PySem.W.Frag) (H:Hp) (a:Addr) (xs:List V):Prop:=
 Rd H a (.tup xs)∨
  ∃(o:Obj) (its:Array Value) (n:Nat),K.lookup a=some o∧o.cls=.type "tuple"∧o.data=.seq its n∧its.size≤sizeLine∧Vals xs its.toList
def zlD:Value→Option V
 |.none=>some .non
 |.bool b=>some (.bl b)
 |.int i _=>some (.int i)
 |.str x _=>some (.str x)
 |.bytes b _=>some (.byt b)
 |.float b _=>some (.flt b)
 |.ref a=>some (.ref a)
 |.type n=>some (.ty n)
 |_=>none
theorem RelV.abs {x:V} {u:Value} (r:RelV x u):zlD u=some x:=by
 cases x with
 |non=>cases r;rfl
 |bl _=>cases r;rfl
 |int _=>obtain ⟨t,rfl⟩:=r;rfl
 |str _=>obtain ⟨t,rfl⟩:=r;rfl
 |byt _=>obtain ⟨t,rfl⟩:=r;rfl
 |flt _=>obtain ⟨t,rfl⟩:=r;rfl
 |ref _=>cases r;rfl
 |ty _=>cases r;rfl
theorem RelV.inj {x y:V} {u:Value} (r:RelV x u) (q:RelV y u):x=y:=Option.some.inj (r.abs.symm.trans q.abs)
theorem Vals.inj:∀{xs ys:List V} {us:List Value},Vals xs us→Vals ys us→xs=ys
 |_,_,_,.nil,.nil=>rfl
 |_,_,_,.cons r t,.cons r' t'=>by rw [r.inj r',Vals.inj t t']
section
variable {X:Cx} {pins:List (Addr×Obj)} {σ:St} {H:Hp} {s:Shared} {a:Addr} {xs ys:List V}
theorem SqL.of {K:PySem.W.Frag} (h:H a=some (.lst xs)):SqL K H a xs:=.inl (.inl h)
theorem SqT.of {K:PySem.W.Frag} (h:H a=some (.tup xs)):SqT K H a xs:=.inl (.inl h)
theorem Inv.list (I:Inv X pins σ H s) (h:SqL X.K H a xs):∃its:List Value,Vals xs its∧PlainL s.heap a its.toArray∧xs.length≤sizeLine:=by
 rcases h with h|⟨o,its,n,hk,hc,hd,hs,hz,r⟩
 ·obtain ⟨z,its,n,r,e⟩:=h.ok I.hok
  exact ⟨its,r,⟨_,n,e,rfl,rfl,rfl⟩,z⟩
 ·refine ⟨its.toList,r,⟨o,n,I.kIn a o hk,hc,hd,by simpa using hs⟩,?_⟩
  have e:=r.length
  simp only [Array.length_toList] at e
  omega
theorem Inv.tuple (I:Inv X pins σ H s) (h:SqT X.K H a xs):∃its:List Value,Vals xs its∧IsTup s.heap a its.toArray∧xs.length≤sizeLine:=by
 rcases h with h|⟨o,its,n,hk,hc,hs,hz,r⟩
 ·obtain ⟨z,its,r,p⟩:=h.ok I.hok
  exact ⟨its,r,p,z⟩
 ·refine ⟨its.toList,r,⟨o,I.kIn a o hk,hc,n,by simpa using hs⟩,?_⟩
  have e:=r.length
  simp only [Array.length_toList] at e
  omega
theorem Inv.list_inj (I:Inv X pins σ H s) (h:SqL X.K H a xs) (h':SqL X.K H a ys):xs=ys:=by
 obtain ⟨its,r,⟨o,n,e,_,_,d⟩,_⟩:=I.list h
 obtain ⟨its',r',⟨o',n',e',_,_,d'⟩,_⟩:=I.list h'
 rw [e] at e';cases e'
 rw [d] at d'
 injection d' with d1 _
 have:its=its':=by simpa using congrArg Array.toList d1
 subst this
 exact r.inj r'
theorem Inv.tuple_inj (I:Inv X pins σ H s) (h:SqT X.K H a xs) (h':SqT X.K H a ys):xs=ys:=by
 obtain ⟨its,r,⟨o,e,_,n,d⟩,_⟩:=I.tuple h
 obtain ⟨its',r',⟨o',e',_,n',d'⟩,_⟩:=I.tuple h'
 rw [e] at e';cases e'
 rw [d] at d'
 injection d' with d1 _
 have:its=its':=by simpa using congrArg Array.toList d1
 subst this
 exact r.inj r'
end
abbrev Cx.wish (X:Cx) (E:Value→Shared→Prop):Cx:={ X with xe:=E }
abbrev Cx.nox (X:Cx):Cx:=X.wish fun _ _=>False
theorem Cx.Ok.wish {X:Cx} (ok:X.Ok) (E:Value→Shared→Prop):(X.wish E).Ok:=
 ⟨ok.mod,ok.kind,ok.glob,ok.blt,ok.above,ok.inj,ok.has,ok.cab,ok.hd,ok.frames,ok.stk,ok.exf,ok.bs,ok.bsz,ok.noex,ok.exfs,ok.funs,ok.frf⟩
theorem Cx.Ok.unwish {X:Cx} {E:Value→Shared→Prop} (ok:(X.wish E).Ok):X.Ok:=
 ⟨ok.mod,ok.kind,ok.glob,ok.blt,ok.above,ok.inj,ok.has,ok.cab,ok.hd,ok.frames,ok.stk,ok.exf,ok.bs,ok.bsz,ok.noex,ok.exfs,ok.funs,ok.frf⟩
section
variable {X:Cx} {pins:List (Addr×Obj)} {σ:St} {H:Hp} {s:Shared} {E:Value→Shared→Prop}
theorem Inv.wish (I:Inv X pins σ H s) (E:Value→Shared→Prop):Inv (X.wish E) pins σ H s:=⟨I.ok.wish E,I.os,I.bare,I.base,I.loc,I.cell,I.free,I.freeC,I.pin,I.hok,I.len⟩
theorem Inv.unwish (I:Inv (X.wish E) pins σ H s):Inv X pins σ H s:=⟨I.ok.unwish,I.os,I.bare,I.base,I.loc,I.cell,I.free,I.freeC,I.pin,I.hok,I.len⟩
theorem SP.unwish {D:Ends} {f:Flow} {s':Shared} (h:SP (X.wish E) pins D f s'):SP X pins D f s':=by
 cases f with
 |next=>obtain ⟨σ',H',I,q⟩:=h;exact ⟨σ',H',I.unwish,q⟩
 |brk=>obtain ⟨σ',H',I,q⟩:=h;exact ⟨σ',H',I.unwish,q⟩
 |cont=>obtain ⟨σ',H',I,q⟩:=h;exact ⟨σ',H',I.unwish,q⟩
 |ret u=>obtain ⟨v,σ',H',I,r,q⟩:=h;exact ⟨v,σ',H',I.unwish,r,q⟩
theorem PSs.nox {st:List Stmt} {t:TS} (h:PSs X.nox st t):PSs X st t:=fun pins s σ H D I hw=>
 wpAny_mono (h pins s σ H D (I.wish _) hw) (fun _ _ q=>q.unwish) fun _ _ z=>False.elim z
end
section
variable {X:Cx} {st:Stmt} {rest:List Stmt} {t u:TS} {e:Expr} {te:TE} {pos:Pos}
def zPC:TS:=fun D σ H=>D.nx σ H
def zaD (t u:TS):TS:=fun D σ H=>t { D with nx:=u D } σ H
theorem zx:PSs X [] zPC:=fun _ _ σ H _ I h=>wpAny_execs_nil ⟨σ,H,I,h⟩
theorem zd (h1:PS X st t) (h2:PSs X rest u):PSs X (st::rest) (zaD t u):=by
 intro pins s σ H D I h
 refine wpAny_execs_cons (thn (h1 pins s σ H { D with nx:=u D } I h) fun f s1 q=>?_)
 cases f with
 |next=>
  obtain ⟨σ',H',I',q⟩:=q
  exact h2 pins s1 σ' H' D I' q
 |ret v=>exact q
 |brk=>exact q
 |cont=>exact q
theorem ze (h1:PS X st t):PSs X [st] t:=by
 intro pins s σ H D I h
 refine wpAny_execs_cons (thn (h1 pins s σ H D I h) fun f s1 q=>?_)
 cases f with
 |next=>exact wpAny_execs_nil q
 |ret v=>exact q
 |brk=>exact q
 |cont=>exact q
theorem Inv.quiet {pins:List (Addr×Obj)} {σ:St} {H:Hp} {s:Shared} (I:Inv X pins σ H s):interactive X.env=false:=by simp [interactive,I.ok.kind]
def zOC (te:TE):TS:=fun D σ H=>te σ H fun _ H1=>D.nx σ H1
theorem z4b (he:PE X e te) (hs:swapsWith e none pos.line X.env=pure false:=by rfl):PS X (.Expr e pos) (zOC te):=by
 intro pins s σ H D I h
 exact wpAny_Expr_any (thn (he pins s σ H _ I h) fun v s1 ⟨x,H1,I1,r1,q1⟩=>⟨σ,H1,I1,q1⟩) I.quiet hs
def zhD (te:TE):TS:=fun D σ H=>te σ H D.rt
theorem zh (he:PE X e te):PS X (.Return (some e) pos) (zhD te):=by
 intro pins s σ H D I h
 exact wpAny_Return_some (thn (he pins s σ H _ I h) fun v s1 ⟨x,H1,I1,r1,q1⟩=>⟨x,σ,H1,I1,r1,q1⟩)
def zYC (c:TT) (t u:TS):TS:=fun D σ H=>c σ H fun b H1=>if b=true then t D σ H1 else u D σ H1
theorem zI {c:Expr} {a b:List Stmt} {tc:TT} (hc:PT X c tc) (ha:PSs X a t) (hb:PSs X b u):PS X (.If c a b pos) (zYC tc t u):=by
 intro pins s σ H D I h
 refine wpAny_If (thn (hc pins s σ H _ I h) fun d s1 ⟨H1,I1,q1⟩=>?_)
 cases d with
 |true=>exact ha pins s1 σ H1 D I1 q1
 |false=>exact hb pins s1 σ H1 D I1 q1
end
abbrev TG:=V→St→Hp→(St→Hp→Prop)→Prop
abbrev TGs:=List V→St→Hp→(St→Hp→Prop)→Prop
def PG (X:Cx) (target:Expr) (t:TG):Prop:=
 ∀(pins:List (Addr×Obj)) (s:Shared) (σ:St) (H:Hp) (v:V) (u:Value) (Q:St→Hp→Prop),Inv X pins σ H s→RelV v u→t v σ H Q→
  wpAny (model X.prog X.w) X.A (assign target X.env u) (fun _ s'=>∃σ' H',Inv X pins σ' H' s'∧Q σ' H') X.xe s
def PGs (X:Cx) (ts:List Expr) (t:TGs):Prop:=
 ∀(pins:List (Addr×Obj)) (s:Shared) (σ:St) (H:Hp) (vs:List V) (us:List Value) (Q:St→Hp→Prop),Inv X pins σ H s→Vals vs us→t vs σ H Q→
  wpAny (model X.prog X.w) X.A (assignInOrder ((assignEach ts X.env).map (·.2)) us) (fun _ s'=>∃σ' H',Inv X pins σ' H' s'∧Q σ' H') X.xe s
abbrev zUt:=V→V→V→Hp→(Hp→Prop)→Prop
def zvz (X:Cx) (t:zUt):Prop:=
 ∀(pins:List (Addr×Obj)) (s:Shared) (σ:St) (H:Hp) (o i v:V) (ov iv u:Value) (Q:Hp→Prop),Inv X pins σ H s→RelV o ov→RelV i iv→RelV v u→t o i v H Q→
  wpAny (model X.prog X.w) X.A (setItem ov iv u) (fun _ s'=>∃H',Inv X pins σ H' s'∧Q H') X.xe s
abbrev TIp:=V→V→Hp→VK→Prop
def PIp (X:Cx) (op:Operator) (t:TIp):Prop:=
 ∀(pins:List (Addr×Obj)) (s:Shared) (σ:St) (H:Hp) (x y:V) (v u:Value) (Q:VK),Inv X pins σ H s→RelV x v→RelV y u→t x y H Q→
  wpAny (model X.prog X.w) X.A (inplaceOp op v u) (EP X pins σ Q) X.xe s
section
variable {X:Cx} {pos:Pos}
def zMg (i:Nat):TG:=fun v σ H Q=>Q (σ.set i (some v)) H
theorem zrb {i:Nat} {x:Str} (hN:X.N.Nodup) (hi:X.N[i]?=some x) (hx:Loc X.env.scope x) (hf:X.fn x=true∨X.env.scope.names.lookup x=some .local:=by first|exact .inl rfl|exact .inr rfl|assumption):PG X (.Name x pos) (zMg i):=by
 intro pins s σ H v u Q I r h
 exact wpAny_assign_Name (zzo I hN hi hx r (fun s' I'=>⟨_,H,I',h⟩) hf)
def z3v:TGs:=fun vs σ H Q=>vs=[]∧Q σ H
def zWk (t:TG) (u:TGs):TGs:=fun vs σ H Q=>∃v r,vs=v::r∧t v σ H fun σ' H'=>u r σ' H' Q
theorem zWA:PGs X [] z3v:=by
 intro pins s σ H vs us Q I r h
 obtain ⟨e,h⟩:=h
 subst e
 cases r
 exact assignInOrder_nil ⟨σ,H,I,h⟩
theorem zpt {e:Expr} {es:List Expr} {t:TG} {u:TGs} (h1:PG X e t) (h2:PGs X es u)
  (hs:(assignEach (e::es) X.env).map (·.2)=assign e X.env::(assignEach es X.env).map (·.2):=by rfl):PGs X (e::es) (zWk t u):=by
 intro pins s σ H vs us Q I r h
 obtain ⟨v,vr,e1,h⟩:=h
 subst e1
 cases r with
 |cons r rr=>
  rw [hs]
  refine assignInOrder_cons (thn (h1 pins s σ H _ _ _ I r h) fun _ s1 ⟨σ1,H1,I1,q1⟩=>?_)
  exact h2 pins s1 σ1 H1 _ _ Q I1 rr q1
def zvw (K:PySem.W.Frag) (n:Nat) (t:TGs):TG:=fun v σ H Q=>∃a xs,v=.ref a∧SqT K H a xs∧xs.length=n∧t xs σ H Q
theorem zTB {es:List Expr} {k:Nat} {t:TGs} {n:Nat} (hc:X.calm=true) (h:PGs X es t)
  (hn:(assignEach es X.env).length=n:=by rfl) (hst:(assignEach es X.env).findIdx? (·.1)=none:=by rfl):PG X (.Tuple es k pos) (zvw X.K n t):=by
 intro pins s σ H v u Q I r hw
 obtain ⟨a,xs,e1,hq,hl,hw⟩:=hw
 subst e1
 cases r
 obtain ⟨its,rv,ht,hz⟩:=I.tuple hq
 refine assign_Tuple_tuple (I.ok.hd hc) ht (by simp [hn,←hl,rv.length]) hst fun h' hx=>?_
 have I1:Inv X pins σ H { s with heap:=h' }:=I.kept (t':=s.toks) fun b o e=>hx b o (Nat.ne_of_lt (Heap.lt_size e)) e
 exact h pins _ σ H xs _ Q I1 (by simpa using rv) hw
def zfD (to ti:TE) (t:zUt):TG:=fun v σ H Q=>to σ H fun o H1=>ti σ H1 fun i H2=>t o i v H2 fun H3=>Q σ H3
theorem zuB {o i:Expr} {to ti:TE} {t:zUt} (ho:PE X o to) (hi:PE X i ti) (hs:zvz X t)
  (ha:∀v,assign (.Subscript o i pos) X.env v=(do
   let ov ←holding [v] (eval o X.env)
   let iv ←holding [v,ov] (eval i X.env)
   standAt pos
   holding [v,ov,iv] (setItem ov iv v)
   release [v,ov,iv] []):=by intro _;rfl):PG X (.Subscript o i pos) (zfD to ti t):=by
 intro pins s σ H v u Q I r h
 rw [ha]
 refine wpAny_bind (wpAny_holding (thn (ho pins s σ H _ I h) fun ov s1 ⟨x,H1,I1,r1,q1⟩=>?_))
 refine wpAny_bind (wpAny_holding (thn (hi pins s1 σ H1 _ I1 q1) fun iv s2 ⟨y,H2,I2,r2,q2⟩=>?_))
 refine wpAny_bind (wpAny_standAt (wpAny_bind (wpAny_holding (thn (hs pins s2 σ H2 x y v ov iv u _ I2 r1 r2 r q2) fun _ s3 ⟨H3,I3,q3⟩=>?_))))
 exact wpAny_release ⟨σ,H3,I3,q3⟩
def z8y (te:TE) (g:TG):TS:=fun D σ H=>te σ H fun x H1=>g x σ H1 D.nx
theorem z8B {tg e:Expr} {te:TE} {g:TG} (he:PE X e te) (hg:PG X tg g) (hs:swapsWithSole [tg] e pos.line X.env=pure false:=by rfl) (hw:swappedStores [tg] e X.env=pure none:=by rfl)
  (h1:(assignEach [tg] X.env).map (·.2)=[assign tg X.env]:=by rfl):PS X (.Assign [tg] e pos) (z8y te g):=by
 intro pins s σ H D I h
 refine wpAny_Assign_stores (thn (he pins s σ H _ I h) fun v s1 ⟨x,H1,I1,r1,q1⟩=>?_) hs hw
 rw [h1]
 exact thn (hg pins s1 σ H1 x v _ I1 r1 q1) fun _ s2 q=>q
theorem zK {i:Nat} {x:Str} {e:Expr} {te:TE} {pos':Pos} (hN:X.N.Nodup) (hi:X.N[i]?=some x) (hx:Loc X.env.scope x) (he:PE X e te) (hs:swapsWith e (some (.Name x pos')) pos.line X.env=pure false:=by rfl) (hf:X.fn x=true∨X.env.scope.names.lookup x=some .local:=by first|exact .inl rfl|exact .inr rfl|assumption):
  PS X (.Assign [.Name x pos'] e pos) (z8y te (zMg i)):=by
 intro pins s σ H D I h
 refine wpAny_Assign_Name (thn (he pins s σ H _ I h) fun v s1 ⟨y,H1,I1,r1,q1⟩=>?_) hs
 exact zzo I1 hN hi hx r1 (fun s2 I2=>⟨_,H1,I2,q1⟩) hf
def zcD (i:Nat) (te:TE) (ti:TIp):TS:=fun D σ H=>∃x,σ[i]?=some (some x)∧te σ H fun y H1=>ti x y H1 fun z H2=>D.nx (σ.set i (some z)) H2
theorem zVx {i:Nat} {x:Str} {e:Expr} {te:TE} {op:Operator} {ti:TIp} {pos':Pos} (hN:X.N.Nodup) (hi:X.N[i]?=some x) (hx:Loc X.env.scope x) (he:PE X e te) (ho:PIp X op ti) (hf:X.fn x=true∨X.env.scope.names.lookup x=some .local:=by first|exact .inl rfl|exact .inr rfl|assumption):
  PS X (.AugAssign (.Name x pos') op e pos) (zcD i te ti):=by
 intro pins s σ H D I h
 obtain ⟨v,e1,h⟩:=h
 obtain ⟨m,hn,hl⟩:=I.loc
 have vis:Vis X.env.scope x:=by rcases hx with k|k;exact .inl k;exact .inr (.inl k)
 obtain ⟨u,r,l⟩:=hl i x v hi e1 vis
 refine wpAny_AugAssign_Name ?_
 have go:wpAny (model X.prog X.w) X.A (eval e X.env) (fun w s₂=>wpAny (model X.prog X.w) X.A (inplaceOp op u w) (fun r s₃=>wpAny (model X.prog X.w) X.A (storeName X.env x r) (fun _=>SP X pins D .next) X.xe s₃) X.xe s₂) X.xe s:=by
  refine thn (he pins s σ H _ I h) fun w s1 ⟨y,H1,I1,r1,q1⟩=>?_
  refine thn (ho pins s1 σ H1 v y u w _ I1 r r1 q1) fun z s2 ⟨zv,H2,I2,r2,q2⟩=>?_
  exact zzo I2 hN hi hx r2 (fun s3 I3=>⟨_,H2,I3,q2⟩) hf
 rcases l with ⟨hk,hm⟩|⟨hk,c,hc,hcell⟩
 ·exact wpAny_loadName_local I.ok.kind hk hn hm go
 ·rcases hk with hk|hk
  ·exact wpAny_loadName_cell I.ok.kind hk hc hcell go
  ·rcases hx with k|k
   ·have:X.env.scope.names.lookup x=some .free:=hk
    rw [k] at this;cases this
   ·have:X.env.scope.names.lookup x=some .free:=hk
    rw [k] at this;cases this
def zwC (to ti te:TE) (tget:V→V→Hp→VK→Prop) (tip:TIp) (tset:zUt):TS:=fun D σ H=>to σ H fun o H1=>ti σ H1 fun i H2=>tget o i H2 fun x H3=>te σ H3 fun y H4=>tip x y H4 fun z H5=>tset o i z H5 fun H6=>D.nx σ H6
def zwB (X:Cx) (t:V→V→Hp→VK→Prop):Prop:=
 ∀(pins:List (Addr×Obj)) (s:Shared) (σ:St) (H:Hp) (o i:V) (ov iv:Value) (Q:VK),Inv X pins σ H s→RelV o ov→RelV i iv→t o i H Q→
  wpAny (model X.prog X.w) X.A (getItem ov iv) (EP X pins σ Q) X.xe s
theorem zZq {o i e:Expr} {to ti te:TE} {tget:V→V→Hp→VK→Prop} {tip:TIp} {tset:zUt} {op:Operator} {tpos:Pos} (ho:PE X o to) (hi:PE X i ti) (hg:zwB X tget) (he:PE X e te) (hp:PIp X op tip) (hs:zvz X tset)
  (ha:∀ov iv new,augStore i ov iv new=(do holding [new,ov,iv] (setItem ov iv new);release [new,ov,iv] [];pure .next):=by intros;rfl):PS X (.AugAssign (.Subscript o i tpos) op e pos) (zwC to ti te tget tip tset):=by
 intro pins s σ H D I h
 refine wpAny_AugAssign_SubscriptAny (thn (ho pins s σ H _ I h) fun ov s1 ⟨x1,H1,I1,r1,q1⟩=>?_) ha
 refine thn (hi pins s1 σ H1 _ I1 q1) fun iv s2 ⟨x2,H2,I2,r2,q2⟩=>?_
 refine thn (hg pins s2 σ H2 x1 x2 ov iv _ I2 r1 r2 q2) fun old s3 ⟨x3,H3,I3,r3,q3⟩=>?_
 refine thn (he pins s3 σ H3 _ I3 q3) fun v s4 ⟨x4,H4,I4,r4,q4⟩=>?_
 refine thn (hp pins s4 σ H4 x3 x4 old v _ I4 r3 r4 q4) fun new s5 ⟨x5,H5,I5,r5,q5⟩=>?_
 exact thn (hs pins s5 σ H5 x1 x2 x5 ov iv new _ I5 r1 r2 r5 q5) fun _ s6 ⟨H6,I6,q6⟩=>⟨σ,H6,I6,q6⟩
def ipI (f:Int→Int→Int):TIp:=fun x y H Q=>∃i j,x=.int i∧y=.int j∧Q (.int (f i j)) H
theorem zcu:PIp X .Add (ipI fun i j=>i + j):=by
 intro pins s σ H x y v u Q I r1 r2 h
 obtain ⟨i,j,e1,e2,q⟩:=h
 subst e1;subst e2
 obtain ⟨t,rfl⟩:=r1
 obtain ⟨t',rfl⟩:=r2
 exact iadd_int ⟨.int _,H,I.tok _,⟨_,rfl⟩,q⟩
theorem zky:PIp X .Sub (ipI fun i j=>i - j):=by
 intro pins s σ H x y v u Q I r1 r2 h
 obtain ⟨i,j,e1,e2,q⟩:=h
 subst e1;subst e2
 obtain ⟨t,rfl⟩:=r1
 obtain ⟨t',rfl⟩:=r2
 exact isub_int ⟨.int _,H,I.tok _,⟨_,rfl⟩,q⟩
end
section
variable {X:Cx} {pos:Pos}
def zFB (c:TT) (tb:TS):TS:=fun D σ H=>∃W:Nat→St→Hp→Prop,(∃m,W m σ H)∧∀m σ H,W m σ H→
 c σ H fun b H1=>if b=true then ∃N:St→Hp→Prop,(∀σ' H',N σ' H'→∃m',m' < m∧W m' σ' H')∧tb { D with nx:=N,ct:=N,bk:=D.nx } σ H1 else D.nx σ H1
theorem zjz {c:Expr} {body:List Stmt} {tc:TT} {tb:TS} (hp:PassesOwn (model X.prog X.w) X.A X.env X.xe) (hc:PT X c tc) (hb:PSs X body tb):PS X (.While c body [] pos) (zFB tc tb):=by
 intro pins s σ H D I h
 obtain ⟨W,⟨m0,w0⟩,turn⟩:=h
 refine wpAny_While (codeAny_whileLoop (fun n s'=>∃σ' H',Inv X pins σ' H' s'∧W n σ' H') ?_ m0 ⟨σ,H,I,w0⟩)
 rintro n s1 ⟨σ1,H1,I1,w1⟩
 refine wpAny_passesOwn hp (thn (hc pins s1 σ1 H1 _ I1 (turn n σ1 H1 w1)) fun b s2 ⟨H2,I2,q2⟩=>?_)
 cases b with
 |true=>
  obtain ⟨N,hN,q2⟩:=q2
  rw [if_pos rfl]
  refine wpAny_passesOwn hp (thn (hb pins s2 σ1 H2 _ I2 q2) fun f s3 q3=>?_)
  cases f with
  |next=>
   obtain ⟨σ3,H3,I3,n3⟩:=q3
   obtain ⟨m',hm,w3⟩:=hN σ3 H3 n3
   exact ⟨m',hm,σ3,H3,I3,w3⟩
  |cont=>
   obtain ⟨σ3,H3,I3,n3⟩:=q3
   obtain ⟨m',hm,w3⟩:=hN σ3 H3 n3
   exact ⟨m',hm,σ3,H3,I3,w3⟩
  |brk=>exact q3
  |ret v=>exact q3
 |false=>
  rw [if_neg Bool.false_ne_true]
  exact wpAny_execs_nil ⟨σ1,H2,I2,q2⟩
end
structure It where
 go:Nat→Hp→Prop
 yld:Nat→Hp→V→Hp→Prop
 stop:Nat→Hp→Prop
def zah (X:Cx) (pins:List (Addr×Obj)) (H:Hp) (b:Addr):Prop:=
 H b=none∧b≠X.env.locals∧b∉X.fs∧(b∈X.ex∨X.s_0.heap.objs.size≤b)∧(∀x c,X.env.cells.lookup x=some c→c≠b)∧∀p∈X.pn++pins,p.1≠b
theorem Inv.fpOk {X:Cx} {pins:List (Addr×Obj)} {σ:St} {H H':Hp} {s:Shared} {b:Addr} (I:Inv X pins σ H s) (hb:s.heap.objs.size≤b) (hn:H' b=none):zah X pins H' b:=by
 refine ⟨hn,Nat.ne_of_gt (Nat.lt_of_lt_of_le I.lt hb),I.nofs hb,.inr (Nat.le_trans I.sz hb),fun x c e z=>?_,fun p hp z=>?_⟩
 ·obtain ⟨v,q⟩:=I.cell x c e
  exact absurd (Nat.lt_of_lt_of_le q.lt (by rw [z];exact hb)) (Nat.lt_irrefl _)
 ·exact absurd (Nat.lt_of_lt_of_le (Heap.lt_size (I.pin p hp).1) (by rw [z];exact hb)) (Nat.lt_irrefl _)
structure Turn (P:Program) (w:World) (K:PySem.W.Frag) (tg:Expr) (J:It) (fp:List Addr) (it:Addr) (tn:Nat→Heap→Prop):Prop where
 mem:it∈fp
 obj:∀i h,tn i h→∀b∈fp,∃o,h.get? b=some o∧∀v,o.data≠.cell v
 keep:∀i h h',tn i h→(∀b∈fp,∀o,h.get? b=some o→h'.get? b=some o)→tn i h'
 item:∀(X:Cx),X.prog=P→X.w=w→X.K=K→X.calm=true→∀(i:Nat) (pins:List (Addr×Obj)) (s:Shared) (σ:St) (H:Hp) (E:Value→Shared→Prop),Inv X pins σ H s→(∀b∈fp,zah X pins H b)→tn i s.heap→J.go i H→
  wpAny (model P w) X.A (pyNext (.ref it)) (fun r s1=>∃u,r=some u∧
   wpAny (model P w) X.A (letOwnedTupleGo tg (.ref it) u) (fun _ s2=>∃x H',Inv X pins σ H' s2∧RelV x u∧J.yld i H x H'∧tn (i + 1) s2.heap∧∀b∈fp,H' b=none) E s1) E s
 done:∀(X:Cx),X.prog=P→X.w=w→X.K=K→X.calm=true→∀(i:Nat) (pins:List (Addr×Obj)) (s:Shared) (σ:St) (H:Hp) (E:Value→Shared→Prop),Inv X pins σ H s→(∀b∈fp,zah X pins H b)→tn i s.heap→J.stop i H→
  wpAny (model P w) X.A (pyNext (.ref it)) (fun r s1=>r=none∧Inv X pins σ H s1) E s
 self:∀(A:Around) (i:Nat) (s:Shared) (Q:Value→Shared→Prop) (E:Value→Shared→Prop),tn i s.heap→Q (.ref it) s→wpAny (model P w) A (pyIter (.ref it)) Q E s
abbrev TI:=St→Hp→(It→Hp→Prop)→Prop
def PIE (X:Cx) (pins:List (Addr×Obj)) (σ:St) (tg:Expr) (R:It→Hp→Prop) (itv:Value) (s2:Shared):Prop:=
 ∃(it:Addr) (fp:List Addr) (tn:Nat→Heap→Prop) (J:It) (H':Hp),itv=.ref it∧Inv X pins σ H' s2∧Turn X.prog X.w X.K tg J fp it tn∧tn 0 s2.heap∧(∀b∈fp,zah X pins H' b)∧R J H'
def PI (X:Cx) (tg iter:Expr) (wi:TI):Prop:=
 ∀(pins:List (Addr×Obj)) (s:Shared) (σ:St) (H:Hp) (R:It→Hp→Prop),Inv X pins σ H s→wi σ H R→
  wpAny (model X.prog X.w) X.A (eval iter X.env) (fun v s1=>wpAny (model X.prog X.w) X.A (pyIter v) (PIE X pins σ tg R) X.xe s1) X.xe s
theorem zdp {M:Model} {A:Around} {E:Value→Shared→Prop} {s:Shared} {tg:Expr} {it:Addr} {u:Value} {o:Obj} {n:String} {vs:Array Value} {Q:Unit→Shared→Prop} (ho:s.heap.get? it=some o) (hc:o.cls=.type n) (hd:o.data=.fields vs)
  (hn:["enumerate","zip","dict_itemiterator","dict_reverseitemiterator","odict_iterator","itertools.zip_longest","itertools.pairwise"].contains n=false) (hQ:Q () s):wpAny M A (letOwnedTupleGo tg (.ref it) u) Q E s:=by
 unfold letOwnedTupleGo
 cases tg<;>first
  |exact wpAny_pure hQ
  |(cases u<;>first
    |exact wpAny_pure hQ
    |(refine wpAny_bind (wpAny_load ho ?_)
      rw [hc,hd]
      show wpAny M A (if (["enumerate","zip","dict_itemiterator","dict_reverseitemiterator","odict_iterator","itertools.zip_longest","itertools.pairwise"].contains n&&vs[0]?==some (rawInt _))=true then _ else _) Q E s
      rw [if_neg (by intro h;rw [hn,Bool.false_and] at h;cases h)]
      exact wpAny_pure hQ))
def Itl (K:PySem.W.Frag) (a:Addr):It:=
 ⟨fun i H=>∃xs x,SqL K H a xs∧xs[i]?=some x,fun i H x H'=>H'=H∧∀xs,SqL K H a xs→xs[i]?=some x,fun i H=>∃xs,SqL K H a xs∧xs.length≤i⟩
def Itt (K:PySem.W.Frag) (a:Addr):It:=
 ⟨fun i H=>∃xs x,SqT K H a xs∧xs[i]?=some x,fun i H x H'=>H'=H∧∀xs,SqT K H a xs→xs[i]?=some x,fun i H=>∃xs,SqT K H a xs∧xs.length≤i⟩
theorem zqx {P:Program} {w:World} {K:PySem.W.Frag} {tg:Expr} (a it:Addr):Turn P w K tg (Itl K a) [it] it (fun i h=>h.IsListIter it a i) where
 mem:=by simp
 obj:=fun i h st b hb=>by
  have e:b=it:=by simpa using hb
  subst e
  obtain ⟨o,e,c,d⟩:=st
  exact ⟨o,e,fun v z=>by rw [d] at z;cases z⟩
 keep:=fun i h h' st k=>st.at fun o e=>k it (by simp) o e
 item:=by
  intro X hP hw hK hc i pins s σ H E I hf st hg
  subst hP hw hK
  obtain ⟨xs,x,hq,hx⟩:=hg
  obtain ⟨its,rv,p,hz⟩:=I.list hq
  obtain ⟨u,hu,ru⟩:=rv.get hx
  obtain ⟨f0,f1,f2,f3,f4,f5⟩:=hf it (by simp)
  refine wpAny_pyNext_list_item st p.isList (x:=u) (by simpa using hu) fun h' st' sb=>?_
  have I1:Inv X pins σ H { s with heap:=h' }:=I.turned (t':=s.toks) (fun b o hb e=>(sb.2 b hb).trans e) f0 f1 f3 f4 f5
  obtain ⟨o,e,c,d⟩:=id st'
  exact ⟨u,rfl,zdp (s:={ s with heap:=h' }) e c d (by decide) ⟨x,H,I1,ru,⟨rfl,fun ys hy=>by rw [I.list_inj hy hq];exact hx⟩,st',fun b hb=>(hf b hb).1⟩⟩
 done:=by
  intro X hP hw hK hc i pins s σ H E I hf st hg
  subst hP hw hK
  obtain ⟨xs,hq,hx⟩:=hg
  obtain ⟨its,rv,p,hz⟩:=I.list hq
  obtain ⟨f0,f1,f2,f3,f4,f5⟩:=hf it (by simp)
  have hl:=rv.length
  exact wpAny_pyNext_list_end (I.ok.hd hc) st p.isList (by simp;omega) fun h' eb=>⟨rfl,I.turned (t':=s.toks) (fun b o hb e=>eb b o hb e) f0 f1 f3 f4 f5⟩
 self:=fun _ _ _ _ _ st h=>wpAny_pyIter_listiter st h
theorem z4v {P:Program} {w:World} {K:PySem.W.Frag} {tg:Expr} (a it:Addr):Turn P w K tg (Itt K a) [it] it (fun i h=>h.IsTupleIter it a i) where
 mem:=by simp
 obj:=fun i h st b hb=>by
  have e:b=it:=by simpa using hb
  subst e
  obtain ⟨o,e,c,d⟩:=st
  exact ⟨o,e,fun v z=>by rw [d] at z;cases z⟩
 keep:=fun i h h' st k=>st.at fun o e=>k it (by simp) o e
 item:=by
  intro X hP hw hK hc i pins s σ H E I hf st hg
  subst hP hw hK
  obtain ⟨xs,x,hq,hx⟩:=hg
  obtain ⟨its,rv,p,hz⟩:=I.tuple hq
  obtain ⟨u,hu,ru⟩:=rv.get hx
  obtain ⟨f0,f1,f2,f3,f4,f5⟩:=hf it (by simp)
  refine wpAny_pyNext_tuple_item st (show s.heap.IsTuple a its.toArray from p) (x:=u) (by simpa using hu) fun h' st' sb=>?_
  have I1:Inv X pins σ H { s with heap:=h' }:=I.turned (t':=s.toks) (fun b o hb e=>(sb.2 b hb).trans e) f0 f1 f3 f4 f5
  obtain ⟨o,e,c,d⟩:=id st'
  exact ⟨u,rfl,zdp (s:={ s with heap:=h' }) e c d (by decide) ⟨x,H,I1,ru,⟨rfl,fun ys hy=>by rw [I.tuple_inj hy hq];exact hx⟩,st',fun b hb=>(hf b hb).1⟩⟩
 done:=by
  intro X hP hw hK hc i pins s σ H E I hf st hg
  subst hP hw hK
  obtain ⟨xs,hq,hx⟩:=hg
  obtain ⟨its,rv,p,hz⟩:=I.tuple hq
  obtain ⟨f0,f1,f2,f3,f4,f5⟩:=hf it (by simp)
  have hl:=rv.length
  exact wpAny_pyNext_tuple_end (I.ok.hd hc) st (show s.heap.IsTuple a its.toArray from p) (by simp;omega) fun h' eb=>⟨rfl,I.turned (t':=s.toks) (fun b o hb e=>eb b o hb e) f0 f1 f3 f4 f5⟩
 self:=fun _ _ _ _ _ st h=>wpAny_pyIter_tupleiter st h
end L2
namespace L2
open PySem PySem.Spec PyProof.Rows
section
variable {X:Cx} {tg:Expr}
def zrC (K:PySem.W.Frag) (tl:TE):TI:=fun σ H R=>tl σ H fun x H1=>∃a,x=.ref a∧(∃xs,SqL K H1 a xs)∧R (Itl K a) H1
def z6C (K:PySem.W.Frag) (tl:TE):TI:=fun σ H R=>tl σ H fun x H1=>∃a,x=.ref a∧(∃xs,SqT K H1 a xs)∧R (Itt K a) H1
theorem zYb {l:Expr} {tl:TE} (hl:PE X l tl):PI X tg l (zrC X.K tl):=by
 intro pins s σ H R I h
 refine thn (hl pins s σ H _ I h) fun v s1 ⟨x,H1,I1,r1,q1⟩=>?_
 obtain ⟨a,e,⟨xs,hq⟩,q⟩:=q1
 subst e
 cases r1
 obtain ⟨its,rv,p,hz⟩:=I1.list hq
 refine wpAny_pyIter_list p.isList ?_
 refine ⟨s1.heap.objs.size,[s1.heap.objs.size],_,_,H1,rfl,I1.kept (t':=s1.toks) fun b o e=>Heap.get?_push_of_some _ e,zqx a _,⟨_,Heap.get?_push_size _ rfl,rfl,rfl⟩,fun b hb=>?_,q⟩
 have e:b=s1.heap.objs.size:=by simpa using hb
 subst e
 exact I1.fpOk (Nat.le_refl _) (I1.hok.fresh (Nat.le_refl _))
theorem zSB {l:Expr} {tl:TE} (hl:PE X l tl):PI X tg l (z6C X.K tl):=by
 intro pins s σ H R I h
 refine thn (hl pins s σ H _ I h) fun v s1 ⟨x,H1,I1,r1,q1⟩=>?_
 obtain ⟨a,e,⟨xs,hq⟩,q⟩:=q1
 subst e
 cases r1
 obtain ⟨its,rv,p,hz⟩:=I1.tuple hq
 refine wpAny_pyIter_tuple (show s1.heap.IsTuple a its.toArray from p) ?_
 refine ⟨s1.heap.objs.size,[s1.heap.objs.size],_,_,H1,rfl,I1.kept (t':=s1.toks) fun b o e=>Heap.get?_push_of_some _ e,z4v a _,⟨_,Heap.get?_push_size _ rfl,rfl,rfl⟩,fun b hb=>?_,q⟩
 have e:b=s1.heap.objs.size:=by simpa using hb
 subst e
 exact I1.fpOk (Nat.le_refl _) (I1.hok.fresh (Nat.le_refl _))
def zbD (wi:TI) (g:TG) (tb:TS):TS:=fun D σ H=>wi σ H fun J H1=>∃W:Nat→Nat→St→Hp→Prop,(∃m,W 0 m σ H1)∧∀i m σ H,W i m σ H→
 (J.stop i H∧D.nx σ H)∨(J.go i H∧∃N:St→Hp→Prop,(∀σ' H',N σ' H'→∃m',m' < m∧W (i + 1) m' σ' H')∧∀x H',J.yld i H x H'→g x σ H' fun σ2 H2=>tb { D with nx:=N,ct:=N,bk:=D.nx } σ2 H2)
def zOl (fp:List Addr) (h:Heap):List (Addr×Obj):=fp.filterMap fun b=>(h.get? b).map fun o=>(b,o)
theorem zIk {fp:List Addr} {h:Heap} {b:Addr} {o:Obj} (hb:b∈fp) (e:h.get? b=some o):(b,o)∈zOl fp h:=List.mem_filterMap.mpr ⟨b,hb,by rw [e];rfl⟩
theorem zsy {fp:List Addr} {h:Heap} {p:Addr×Obj} (hp:p∈zOl fp h):p.1∈fp∧h.get? p.1=some p.2:=by
 obtain ⟨b,hb,e⟩:=List.mem_filterMap.mp hp
 cases q:h.get? b with
 |none=>rw [q] at e;cases e
 |some o=>
  rw [q] at e
  have e':(b,o)=p:=Option.some.inj e
  subst e'
  exact ⟨hb,q⟩
theorem Inv.pinned {pins:List (Addr×Obj)} {σ:St} {H:Hp} {s:Shared} {fp:List Addr} (I:Inv X pins σ H s) (hf:∀b∈fp,zah X pins H b) (ho:∀b∈fp,∃o,s.heap.get? b=some o∧∀v,o.data≠.cell v):Inv X (pins++zOl fp s.heap) σ H s:=
 I.pins_of fun p hp=>(List.mem_append.mp hp).elim (fun z=>I.pin p (List.mem_append_right _ z)) fun z=>by
  obtain ⟨hb,e⟩:=zsy z
  obtain ⟨f0,f1,f2,_⟩:=hf p.1 hb
  obtain ⟨o,e',d⟩:=ho p.1 hb
  rw [e] at e';cases e'
  exact ⟨e,f0,f1,f2,d⟩
theorem Inv.unpinned {pins pl:List (Addr×Obj)} {σ:St} {H:Hp} {s:Shared} (I:Inv X (pins++pl) σ H s):Inv X pins σ H s:=I.pins_of fun p hp=>I.pin p (List.mem_append_right _ (List.mem_append_left _ hp))
theorem zMd {iter:Expr} {body:List Stmt} {wi:TI} {g:TG} {tb:TS} {pos:Pos} (hp:PassesOwn (model X.prog X.w) X.A X.env X.xe) (hc:X.calm=true) (hi:PI X tg iter wi) (hg:PG X tg g) (hb:PSs X body tb)
  (hs:∀x,foldedSetIterable iter X.env x=pure x:=by intro _;rfl):PS X (.For tg iter body [] pos) (zbD wi g tb):=by
 intro pins s σ H D I h
 refine wpAny_For (thn (hi pins s σ H _ I h) fun v s1 h1=>thn h1 fun itv s2 h2=>?_) hs
 obtain ⟨it,fp,tn,J,H2,e,I2,T,st2,f2,W,⟨m0,w0⟩,turn⟩:=h2
 subst e
 have stat:∀{H':Hp},(∀b∈fp,H' b=none)→∀b∈fp,zah X pins H' b:=fun hn b hb=>⟨hn b hb,(f2 b hb).2⟩
 refine codeAny_forLoop_any (fun n s'=>∃i σ' H',Inv X pins σ' H' s'∧tn i s'.heap∧(∀b∈fp,H' b=none)∧W i n σ' H') ?_ m0 ⟨0,σ,H2,I2,st2,fun b hb=>(f2 b hb).1,w0⟩
 rintro n s3 ⟨i,σ3,H3,I3,st3,fr3,w3⟩
 rcases turn i n σ3 H3 w3 with ⟨stop,qn⟩|⟨go,N,hN,step⟩
 ·refine wpAny_passesOwn hp (thn (T.done X rfl rfl rfl hc i pins s3 σ3 H3 X.xe I3 (stat fr3) st3 stop) fun r s4 ⟨hr,I4⟩=>?_)
  subst hr
  exact wpAny_execs_nil ⟨σ3,H3,I4,qn⟩
 ·refine wpAny_passesOwn hp (thn (T.item X rfl rfl rfl hc i pins s3 σ3 H3 X.xe I3 (stat fr3) st3 go) fun r s4 ⟨u,hr,h4⟩=>?_)
  subst hr
  refine wpAny_passesOwn hp (thn h4 fun _ s5 ⟨x,H5,I5,r5,y5,st5,fr5⟩=>?_)
  have I5':=I5.pinned (stat fr5) (T.obj _ _ st5)
  refine wpAny_passesOwn hp (thn (hg _ s5 σ3 H5 x u _ I5' r5 (step x H5 y5)) fun _ s6 ⟨σ6,H6,I6,q6⟩=>?_)
  refine wpAny_passesOwn hp (thn (hb _ s6 σ6 H6 _ I6 q6) fun f s7 q7=>?_)
  have again:∀{σ7:St} {H7:Hp},Inv X (pins++zOl fp s5.heap) σ7 H7 s7→N σ7 H7→∃m,m < n∧∃i σ' H',Inv X pins σ' H' s7∧tn i s7.heap∧(∀b∈fp,H' b=none)∧W i m σ' H':=fun {σ7 H7} I7 n7=>by
   obtain ⟨m',hm,w7⟩:=hN σ7 H7 n7
   refine ⟨m',hm,i + 1,σ7,H7,I7.unpinned,T.keep _ _ _ st5 fun b hb o e=>(I7.pin (b,o) (List.mem_append_right _ (List.mem_append_right _ (zIk hb e)))).1,fun b hb=>?_,w7⟩
   obtain ⟨o,e,d⟩:=T.obj _ _ st5 b hb
   exact (I7.pin (b,o) (List.mem_append_right _ (List.mem_append_right _ (zIk hb e)))).2.1
  cases f with
  |next=>obtain ⟨σ7,H7,I7,n7⟩:=q7;exact again I7 n7
  |cont=>obtain ⟨σ7,H7,I7,n7⟩:=q7;exact again I7 n7
  |brk=>obtain ⟨σ7,H7,I7,q7⟩:=q7;exact ⟨σ7,H7,I7.unpinned,q7⟩
  |ret v=>obtain ⟨x7,σ7,H7,I7,r7,q7⟩:=q7;exact ⟨x7,σ7,H7,I7.unpinned,r7,q7⟩
end
theorem zwd {K:PySem.W.Frag} {a:Addr} {xs:List V} {g:TG} {tb:TS} {D:Ends} {σ:St} {H:Hp} (Pv:Nat→St→Hp→Prop) (h0:Pv 0 σ H) (hl:∀i σ H,i≤xs.length→Pv i σ H→SqL K H a xs)
  (hs:∀i x σ H,xs[i]?=some x→Pv i σ H→g x σ H fun σ2 H2=>tb { D with nx:=Pv (i + 1),ct:=Pv (i + 1),bk:=D.nx } σ2 H2) (hd:∀σ H,Pv xs.length σ H→D.nx σ H):
  ∃W:Nat→Nat→St→Hp→Prop,(∃m,W 0 m σ H)∧∀i m σ H,W i m σ H→
   ((Itl K a).stop i H∧D.nx σ H)∨((Itl K a).go i H∧∃N:St→Hp→Prop,(∀σ' H',N σ' H'→∃m',m' < m∧W (i + 1) m' σ' H')∧∀x H',(Itl K a).yld i H x H'→g x σ H' fun σ2 H2=>tb { D with nx:=N,ct:=N,bk:=D.nx } σ2 H2):=by
 refine ⟨fun i m σ H=>m=xs.length - i∧i≤xs.length∧Pv i σ H,⟨xs.length,by simp,Nat.zero_le _,h0⟩,?_⟩
 rintro i m σ H ⟨rfl,hi,p⟩
 have q:=hl i σ H hi p
 by_cases hlt:i < xs.length
 ·refine .inr ⟨⟨xs,xs[i],q,by simp [hlt]⟩,Pv (i + 1),fun σ' H' p'=>⟨xs.length - (i + 1),by omega,rfl,hlt,p'⟩,fun x H' y=>?_⟩
  obtain ⟨e,y⟩:=y
  subst e
  exact hs i x σ _ (y xs q) p
 ·have e:i=xs.length:=by omega
  subst e
  exact .inl ⟨⟨xs,q,Nat.le_refl _⟩,hd σ H p⟩
end L2
namespace L2
open PySem PySem.Spec PyProof.Rows
abbrev R2:=V→V→Hp→VK→Prop
def OpR (X:Cx) (f:Value→Value→Sem Value) (r:R2):Prop:=
 ∀(pins:List (Addr×Obj)) (s:Shared) (σ:St) (H:Hp) (x y:V) (v u:Value) (Q:VK),Inv X pins σ H s→RelV x v→RelV y u→r x y H Q→
  wpAny (model X.prog X.w) X.A (f v u) (EP X pins σ Q) X.xe s
def UnR (X:Cx) (f:Value→Sem Value) (r:V→Hp→VK→Prop):Prop:=
 ∀(pins:List (Addr×Obj)) (s:Shared) (σ:St) (H:Hp) (x:V) (v:Value) (Q:VK),Inv X pins σ H s→RelV x v→r x H Q→
  wpAny (model X.prog X.w) X.A (f v) (EP X pins σ Q) X.xe s
def zag (X:Cx) (f:Value) (r:List V→Hp→VK→Prop):Prop:=
 ∀(pins:List (Addr×Obj)) (s:Shared) (σ:St) (H:Hp) (xs:List V) (us:List Value) (Q:VK),Inv X pins σ H s→Vals xs us→r xs H Q→
  wpAny (model X.prog X.w) X.A (call f us) (EP X pins σ Q) X.xe s
def z8C (X:Cx) (r:V→Hp→(Bool→Hp→Prop)→Prop):Prop:=
 ∀(pins:List (Addr×Obj)) (s:Shared) (σ:St) (H:Hp) (x:V) (v:Value) (Q:Bool→Hp→Prop),Inv X pins σ H s→RelV x v→r x H Q→
  wpAny (model X.prog X.w) X.A (truthy v) (TP X pins σ Q) X.xe s
def tOp (r:R2) (ta tb:TE):TE:=fun σ H Q=>ta σ H fun x H1=>tb σ H1 fun y H2=>r x y H2 Q
def tUn (r:V→Hp→VK→Prop) (ta:TE):TE:=fun σ H Q=>ta σ H fun x H1=>r x H1 Q
def rI (C:Int→Int→Prop) (g:Int→Int→V):R2:=fun x y H Q=>∃i j,x=.int i∧y=.int j∧C i j∧Q (g i j) H
def rI0 (g:Int→Int→V):R2:=fun x y H Q=>∃i j,x=.int i∧y=.int j∧Q (g i j) H
def rU (g:Int→V):V→Hp→VK→Prop:=fun x H Q=>∃i,x=.int i∧Q (g i) H
section
variable {X:Cx} {a b c:Expr} {ta tb tc:TE} {pos:Pos}
theorem zMz (ha:PE X a ta) (hb:PE X b tb) {pins:List (Addr×Obj)} {s:Shared} {σ:St} {H:Hp} {R:V→V→Hp→Prop} (I:Inv X pins σ H s)
  (h:ta σ H fun x H1=>tb σ H1 fun y H2=>R x y H2) {Q:Value→Shared→Prop} {f:Value→Value→Sem Value}
  (hf:∀v u s2 x y H2,Inv X pins σ H2 s2→RelV x v→RelV y u→R x y H2→wpAny (model X.prog X.w) X.A (f v u) Q X.xe s2):
  wpAny (model X.prog X.w) X.A (eval a X.env) (fun v s₁=>wpAny (model X.prog X.w) X.A (eval b X.env) (fun u s₂=>wpAny (model X.prog X.w) X.A (f v u) Q X.xe s₂) X.xe s₁) X.xe s:=by
 refine thn (ha pins s σ H _ I h) fun v s1 ⟨x,H1,I1,r1,q1⟩=>?_
 refine thn (hb pins s1 σ H1 _ I1 q1) fun u s2 ⟨y,H2,I2,r2,q2⟩=>?_
 exact hf v u s2 x y H2 I2 r1 r2 q2
theorem zZ {op:Operator} {r:R2} (ho:OpR X (binaryOp op) r) (ha:PE X a ta) (hb:PE X b tb):PE X (.BinOp a op b pos) (tOp r ta tb):=by
 intro pins s σ H Q I h
 exact wpAny_BinOp (zMz ha hb I h fun v u s2 x y H2 I2 rx ry q=>ho pins s2 σ H2 x y v u Q I2 rx ry q)
theorem zen {op:UnaryOp} {r:V→Hp→VK→Prop} (ho:UnR X (unaryOp op) r) (ha:PE X a ta):PE X (.UnaryOp op a pos) (tUn r ta):=by
 intro pins s σ H Q I h
 exact UnaryOp_ (thn (ha pins s σ H _ I h) fun v s1 ⟨x,H1,I1,r1,q1⟩=>ho pins s1 σ H1 x v Q I1 r1 q1)
theorem opI {f:Value→Value→Sem Value} {C:Int→Int→Prop} {g:Int→Int→Int}
  (rule:∀(i j:Int) (t u:Tok) (s:Shared) (Q:Value→Shared→Prop) (E:Value→Shared→Prop),C i j→Q (.int (g i j) s.toks) { s with toks:=s.toks + 1 }→wpAny (model X.prog X.w) X.A (f (.int i t) (.int j u)) Q E s):
  OpR X f (rI C fun i j=>.int (g i j)):=by
 intro pins s σ H x y v u Q I rx ry h
 obtain ⟨i,j,rfl,rfl,hc,q⟩:=h
 obtain ⟨t,rfl⟩:=rx
 obtain ⟨t',rfl⟩:=ry
 exact rule i j t t' s _ _ hc ⟨.int (g i j),H,I.tok _,⟨_,rfl⟩,q⟩
theorem zhB {f:Value→Value→Sem Value} {g:Int→Int→Int}
  (rule:∀(i j:Int) (t u:Tok) (s:Shared) (Q:Value→Shared→Prop) (E:Value→Shared→Prop),Q (.int (g i j) s.toks) { s with toks:=s.toks + 1 }→wpAny (model X.prog X.w) X.A (f (.int i t) (.int j u)) Q E s):
  OpR X f (rI0 fun i j=>.int (g i j)):=by
 intro pins s σ H x y v u Q I rx ry h
 obtain ⟨i,j,rfl,rfl,q⟩:=h
 obtain ⟨t,rfl⟩:=rx
 obtain ⟨t',rfl⟩:=ry
 exact rule i j t t' s _ _ ⟨.int (g i j),H,I.tok _,⟨_,rfl⟩,q⟩
theorem zCw {f:Value→Value→Sem Value} {g:Int→Int→Bool}
  (rule:∀(i j:Int) (t u:Tok) (s:Shared) (Q:Value→Shared→Prop) (E:Value→Shared→Prop),Q (.bool (g i j)) s→wpAny (model X.prog X.w) X.A (f (.int i t) (.int j u)) Q E s):
  OpR X f (rI0 fun i j=>.bl (g i j)):=by
 intro pins s σ H x y v u Q I rx ry h
 obtain ⟨i,j,rfl,rfl,q⟩:=h
 obtain ⟨t,rfl⟩:=rx
 obtain ⟨t',rfl⟩:=ry
 exact rule i j t t' s _ _ ⟨.bl (g i j),H,I,rfl,q⟩
def z2C (i j:Int):Prop:=0 < j∧j < 1073741824
def z6l (i j:Int):Prop:=(-(2 ^ 64) < i∧i < 2 ^ 64)∨(-(2 ^ 64) < j∧j < 2 ^ 64)
theorem z6l.ok {i j:Int} (h:z6l i j):IntMulOk i j:=by
 rcases h with ⟨h1,h2⟩|⟨h1,h2⟩
 ·exact .of_left (intBits_le_64 h1 h2)
 ·exact .of_right (intBits_le_64 h1 h2)
theorem zdd:OpR X (binaryOp .Add) (rI0 fun i j=>.int (i + j)):=zhB fun _ _ _ _ _ _ _ q=>add_int q
theorem zod:OpR X (binaryOp .Sub) (rI0 fun i j=>.int (i - j)):=zhB fun _ _ _ _ _ _ _ q=>sub_int q
theorem zXg:OpR X (binaryOp .Mult) (rI z6l fun i j=>.int (i * j)):=opI fun _ _ _ _ _ _ _ hc q=>mul_int q hc.ok
theorem zgA:OpR X (binaryOp .FloorDiv) (rI z2C fun i j=>.int (i / j)):=opI fun i j _ _ _ _ _ hc q=>by
 have h1:(0:Int) < j:=hc.1
 have h2:j < 1073741824:=hc.2
 exact floordiv_int (by omega) (by rw [Int.fdiv_eq_ediv_of_nonneg i (by omega)];exact q) (.inl (PyProof.noPylong_small (by omega)))
theorem zAB:OpR X (binaryOp .Mod) (rI (fun _ j=>0 < j) fun i j=>.int (i % j)):=opI fun i j _ _ _ _ _ hc q=>by
 have h1:(0:Int) < j:=hc
 exact mod_int' (by omega) (by rw [Int.fmod_eq_emod_of_nonneg i (by omega)];exact q)
theorem unI {f:Value→Sem Value} {g:Int→Int}
  (rule:∀(i:Int) (t:Tok) (s:Shared) (Q:Value→Shared→Prop) (E:Value→Shared→Prop),Q (.int (g i) s.toks) { s with toks:=s.toks + 1 }→wpAny (model X.prog X.w) X.A (f (.int i t)) Q E s):
  UnR X f (rU fun i=>.int (g i)):=by
 intro pins s σ H x v Q I rx h
 obtain ⟨i,rfl,q⟩:=h
 obtain ⟨t,rfl⟩:=rx
 exact rule i t s _ _ ⟨.int (g i),H,I.tok _,⟨_,rfl⟩,q⟩
theorem zmk:UnR X (unaryOp .USub) (rU fun i=>.int (-i)):=unI fun _ _ _ _ _ q=>neg_int q
end
def zmC:V→V→Bool
 |.non,.non=>true|.non,.int _=>true|.int _,.non=>true|.non,.bl _=>true|.bl _,.non=>true|.non,.str _=>true|.str _,.non=>true
 |.int _,.int _=>true|.bl _,.bl _=>true|.str _,.str _=>true|.byt _,.byt _=>true
 |.int _,.str _=>true|.str _,.int _=>true|.bl _,.str _=>true|.str _,.bl _=>true
 |_,_=>false
def rEq:R2:=fun x y H Q=>zmC x y=true∧Q (.bl (decide (x=y))) H
def rNe:R2:=fun x y H Q=>zmC x y=true∧Q (.bl (!decide (x=y))) H
theorem zLv {i j:Int}:decide (V.int i=V.int j)=(i==j):=by
 rw [Bool.eq_iff_iff]
 simp
theorem zox {i j:Bool}:decide (V.bl i=V.bl j)=(i==j):=by
 rw [Bool.eq_iff_iff]
 simp
theorem zIv {i j:Str}:decide (V.str i=V.str j)=(i==j):=by
 rw [Bool.eq_iff_iff]
 simp
theorem zmv {i j:Array UInt8}:decide (V.byt i=V.byt j)=(i.toList==j.toList):=by
 rw [Bool.eq_iff_iff]
 cases i
 cases j
 simp
section
variable {X:Cx} {a b c:Expr} {ta tb tc:TE} {pos:Pos}
theorem zpb {pins:List (Addr×Obj)} {σ:St} {H:Hp} {s:Shared} {Q:VK} {k k':Bool} (I:Inv X pins σ H s) (q:Q (.bl k) H) (e:k=k'):EP X pins σ Q (.bool k') s:=by
 subst e
 exact ⟨.bl k,H,I,rfl,q⟩
theorem zMb:OpR X (compareOp .Eq) rEq:=by
 intro pins s σ H x y v u Q I rx ry h
 obtain ⟨hs,q⟩:=h
 cases x with
 |non=>
  cases rx
  cases y with
  |non=>cases ry;exact PySem.EqNone.eq_none_none (zpb I q (by simp))
  |bl j=>cases ry;exact PySem.EqNone.eq_none_bool (zpb I q (by simp))
  |int j=>obtain ⟨t',rfl⟩:=ry;exact PySem.EqNone.eq_none_int (zpb I q (by simp))
  |str j=>obtain ⟨t',rfl⟩:=ry;exact PySem.EqNone.eq_none_str (zpb I q (by simp))
  |_=>exact absurd (show false=true from hs) Bool.false_ne_true
 |bl i=>
  cases rx
  cases y with
  |non=>cases ry;exact PySem.EqNone.eq_bool_none (zpb I q (by simp))
  |bl j=>cases ry;exact eq_bool (zpb I q zox)
  |str j=>obtain ⟨t',rfl⟩:=ry;exact PySem.EqMixed.eq_bool_str (zpb I q (by simp))
  |_=>exact absurd (show false=true from hs) Bool.false_ne_true
 |int i=>
  obtain ⟨t,rfl⟩:=rx
  cases y with
  |non=>cases ry;exact PySem.EqNone.eq_int_none (zpb I q (by simp))
  |int j=>obtain ⟨t',rfl⟩:=ry;exact eq_int (zpb I q zLv)
  |str j=>obtain ⟨t',rfl⟩:=ry;exact PySem.EqMixed.eq_int_str (zpb I q (by simp))
  |_=>exact absurd (show false=true from hs) Bool.false_ne_true
 |str i=>
  obtain ⟨t,rfl⟩:=rx
  cases y with
  |non=>cases ry;exact PySem.EqNone.eq_str_none (zpb I q (by simp))
  |bl j=>cases ry;exact PySem.EqMixed.eq_str_bool (zpb I q (by simp))
  |int j=>obtain ⟨t',rfl⟩:=ry;exact PySem.EqMixed.eq_str_int (zpb I q (by simp))
  |str j=>obtain ⟨t',rfl⟩:=ry;exact eq_str (zpb I q zIv)
  |_=>exact absurd (show false=true from hs) Bool.false_ne_true
 |byt i=>
  obtain ⟨t,rfl⟩:=rx
  cases y with
  |byt j=>obtain ⟨t',rfl⟩:=ry;exact PySem.W.eq_bytes (zpb I q zmv)
  |_=>exact absurd (show false=true from hs) Bool.false_ne_true
 |_=>cases y<;>exact absurd (show false=true from hs) Bool.false_ne_true
theorem zRw:OpR X (compareOp .NotEq) rNe:=by
 intro pins s σ H x y v u Q I rx ry h
 obtain ⟨hs,q⟩:=h
 cases x with
 |non=>
  cases rx
  cases y with
  |non=>cases ry;exact PySem.EqNone.ne_none_none (zpb I q (by simp))
  |bl j=>cases ry;exact PySem.EqNone.ne_none_bool (zpb I q (by simp))
  |int j=>obtain ⟨t',rfl⟩:=ry;exact PySem.EqNone.ne_none_int (zpb I q (by simp))
  |str j=>obtain ⟨t',rfl⟩:=ry;exact PySem.EqNone.ne_none_str (zpb I q (by simp))
  |_=>exact absurd (show false=true from hs) Bool.false_ne_true
 |bl i=>
  cases rx
  cases y with
  |non=>cases ry;exact PySem.EqNone.ne_bool_none (zpb I q (by simp))
  |bl j=>cases ry;exact ne_bool (zpb I q (congrArg not zox))
  |str j=>obtain ⟨t',rfl⟩:=ry;exact PySem.EqMixed.ne_bool_str (zpb I q (by simp))
  |_=>exact absurd (show false=true from hs) Bool.false_ne_true
 |int i=>
  obtain ⟨t,rfl⟩:=rx
  cases y with
  |non=>cases ry;exact PySem.EqNone.ne_int_none (zpb I q (by simp))
  |int j=>obtain ⟨t',rfl⟩:=ry;exact ne_int (zpb I q (congrArg not zLv))
  |str j=>obtain ⟨t',rfl⟩:=ry;exact PySem.EqMixed.ne_int_str (zpb I q (by simp))
  |_=>exact absurd (show false=true from hs) Bool.false_ne_true
 |str i=>
  obtain ⟨t,rfl⟩:=rx
  cases y with
  |non=>cases ry;exact PySem.EqNone.ne_str_none (zpb I q (by simp))
  |bl j=>cases ry;exact PySem.EqMixed.ne_str_bool (zpb I q (by simp))
  |int j=>obtain ⟨t',rfl⟩:=ry;exact PySem.EqMixed.ne_str_int (zpb I q (by simp))
  |str j=>obtain ⟨t',rfl⟩:=ry;exact ne_str (zpb I q (congrArg not zIv))
  |_=>exact absurd (show false=true from hs) Bool.false_ne_true
 |byt i=>
  obtain ⟨t,rfl⟩:=rx
  cases y with
  |byt j=>obtain ⟨t',rfl⟩:=ry;exact PySem.W.ne_bytes (zpb I q (congrArg not zmv))
  |_=>exact absurd (show false=true from hs) Bool.false_ne_true
 |_=>cases y<;>exact absurd (show false=true from hs) Bool.false_ne_true
theorem zgn:OpR X (compareOp .Lt) (rI0 fun i j=>.bl (decide (i < j))):=zCw fun _ _ _ _ _ _ _ q=>lt_int q
theorem zLg:OpR X (compareOp .LtE) (rI0 fun i j=>.bl (decide (i≤j))):=zCw fun _ _ _ _ _ _ _ q=>le_int q
theorem zGh:OpR X (compareOp .Gt) (rI0 fun i j=>.bl (decide (j < i))):=zCw fun _ _ _ _ _ _ _ q=>gt_int q
theorem zjn:OpR X (compareOp .GtE) (rI0 fun i j=>.bl (decide (j≤i))):=zCw fun _ _ _ _ _ _ _ q=>ge_int q
theorem zE (b:Expr) {op:CmpOp} (h:op≠.In:=by decide) (h2:op≠.NotIn:=by decide):behindInMarks op b=false:=by
 have e1:(op==CmpOp.In)=false:=by cases op<;>first|rfl|exact absurd rfl h
 have e2:(op==CmpOp.NotIn)=false:=by cases op<;>first|rfl|exact absurd rfl h2
 cases b<;>simp [behindInMarks,e1,e2]
theorem zLh {op:CmpOp} {r:R2} (ho:OpR X (compareOp op) r) (ha:PE X a ta) (hb:PE X b tb) (hm:behindInMarks op b=false):PE X (.Compare a [op] [b] pos) (tOp r ta tb):=by
 intro pins s σ H Q I h
 exact wpAny_Compare1 (zMz ha hb I h fun v u s2 x y H2 I2 rx ry q=>ho pins s2 σ H2 x y v u Q I2 rx ry q) hm
def z8k (t:TE):TT:=fun σ H Q=>t σ H fun x H'=>∃k,x=.bl k∧Q k H'
theorem zC {op:CmpOp} {r:R2} (ho:OpR X (compareOp op) r) (ha:PE X a ta) (hb:PE X b tb) (hm:behindInMarks op b=false):PT X (.Compare a [op] [b] pos) (z8k (tOp r ta tb)):=by
 intro pins s σ H Q I h
 refine wpAny_isTrue_Compare1 (thn (ha pins s σ H _ I h) fun v s1 ⟨x,H1,I1,r1,q1⟩=>thn (hb pins s1 σ H1 _ I1 q1) fun u s2 ⟨y,H2,I2,r2,q2⟩=>
  thn (ho pins s2 σ H2 x y v u _ I2 r1 r2 q2) fun c s3 ⟨z,H3,I3,r3,k,e,q3⟩=>?_) hm
 subst e
 cases r3
 exact wpAny_truthy_bool ⟨H3,I3,q3⟩
def zjC (K:PySem.W.Frag) (x:V) (H:Hp) (k:Bool):Prop:=
 match x with
 |.non=>k=false
 |.bl b=>k=b
 |.int i=>k=(i != 0)
 |.str y=>y.length≤sizeLine∧k=((y.length:Int) != 0)
 |.byt y=>y.size≤sizeLine∧k=((y.size:Int) != 0)
 |.ref p=>(∃xs,SqL K H p xs∧k=!xs.isEmpty)∨(∃xs,SqT K H p xs∧k=!xs.isEmpty)∨∃kvs,H p=some (.dK kvs)∧k=!kvs.isEmpty
 |_=>False
theorem ztw {κ:Type} {kvs:List (κ×V)} {vs:List (κ×Value)} (r:KV kvs vs):(!vs.isEmpty)=!kvs.isEmpty:=by
 cases r<;>rfl
theorem zgp {xs:List V} {its:List Value} (r:Vals xs its):(!its.toArray.isEmpty)=!xs.isEmpty:=by
 cases r<;>simp
theorem zXh:(sizeLine:Nat) < 2 ^ 63:=by rw [sizeLine_eq];decide
theorem zgB:z8C X (fun x H Q=>∃k,zjC X.K x H k∧Q k H):=by
 intro pins s σ H x v Q I rx h
 obtain ⟨k,e,q⟩:=h
 have hl:=zXh
 have hs:sizeLine=16777216:=sizeLine_eq
 cases x with
 |non=>
  cases rx
  have e':k=false:=e
  subst e'
  exact truthy_none ⟨H,I,q⟩
 |bl b=>
  cases rx
  have e':k=b:=e
  subst e'
  exact wpAny_truthy_bool ⟨H,I,q⟩
 |int i=>
  obtain ⟨t,rfl⟩:=rx
  have e':k=(i != 0):=e
  subst e'
  exact PySem.P.truthy_int ⟨H,I,q⟩
 |str y=>
  obtain ⟨t,rfl⟩:=rx
  obtain ⟨hy,e'⟩:y.length≤sizeLine∧k=((y.length:Int) != 0):=e
  subst e'
  exact PySem.P.truthy_str (by omega) ⟨H,I.tok _,q⟩
 |byt y=>
  obtain ⟨t,rfl⟩:=rx
  obtain ⟨hy,e'⟩:y.size≤sizeLine∧k=((y.size:Int) != 0):=e
  subst e'
  exact PySem.W.truthy_bytes (by omega) ⟨H,I.tok _,q⟩
 |ref p=>
  cases rx
  have e':(∃xs,SqL X.K H p xs∧k=!xs.isEmpty)∨(∃xs,SqT X.K H p xs∧k=!xs.isEmpty)∨∃kvs,H p=some (.dK kvs)∧k=!kvs.isEmpty:=e
  rcases e' with ⟨xs,hx,e'⟩|⟨xs,hx,e'⟩|⟨kvs,hx,e'⟩
  ·subst e'
   obtain ⟨its,r,pl,hz⟩:=I.list hx
   have hlen:=r.length
   exact wpAny_truthy_list pl.isList (by simp only [List.size_toArray];omega) ⟨H,I.tok _,by rw [zgp r];exact q⟩
  ·subst e'
   obtain ⟨its,r,pl,hz⟩:=I.tuple hx
   have hlen:=r.length
   exact truthy_tuple pl (by simp only [List.size_toArray];omega) ⟨H,I.tok _,by rw [zgp r];exact q⟩
  ·subst e'
   obtain ⟨hz,hS,vs,r,m⟩:kvs.length≤sizeLine∧(p==sysModules)=false∧∃vs,KV kvs vs∧s.heap.DictOf (zsb X.prog X.w) p vs:=I.hok p _ hx
   have hlen:kvs.length=vs.length:=Paired.length r
   exact wpAny_truthy_dict hS m (by omega) ⟨H,I.tok _,by rw [ztw r];exact q⟩
 |_=>exact (show False from e).elim
theorem zDo (ha:PE X a ta) (he:∀whole,isTrue a X.env whole=(do let v ←whole;standAt a.pos;holding [v] (truthy v))):
  PT X a (fun σ H Q=>ta σ H fun x H'=>∃k,zjC X.K x H' k∧Q k H'):=by
 intro pins s σ H Q I h
 exact isTrue_plain (thn (ha pins s σ H _ I h) fun v s1 ⟨x,H1,I1,r1,q1⟩=>zgB pins s1 σ H1 x v Q I1 r1 q1) (he _)
theorem vals1 {x:V} {us:List Value} (r:Vals [x] us):∃u,us=[u]∧RelV x u:=by
 cases r with
 |cons r1 r2=>cases r2;exact ⟨_,rfl,r1⟩
theorem vals2 {x y:V} {us:List Value} (r:Vals [x,y] us):∃u w',us=[u,w']∧RelV x u∧RelV y w':=by
 cases r with
 |cons r1 r2=>
  cases r2 with
  |cons r3 r4=>cases r4;exact ⟨_,_,rfl,r1,r3⟩
theorem zPf (hc:X.calm=true):zag X (.builtin "max") (fun xs H Q=>∃i j,xs=[.int i,.int j]∧Q (.int (if j > i then j else i)) H):=by
 intro pins s σ H xs us Q I r h
 obtain ⟨i,j,rfl,q⟩:=h
 obtain ⟨u,w',rfl,⟨t,rfl⟩,⟨t',rfl⟩⟩:=vals2 r
 refine max_two_ints (I.ok.hd hc) fun h' tk k=>⟨_,H,I.kept k,?_,q⟩
 by_cases hj:j > i
 ·rw [if_pos hj,if_pos hj];exact ⟨_,rfl⟩
 ·rw [if_neg hj,if_neg hj];exact ⟨_,rfl⟩
theorem zMr (hc:X.calm=true):zag X (.builtin "min") (fun xs H Q=>∃i j,xs=[.int i,.int j]∧Q (.int (if j < i then j else i)) H):=by
 intro pins s σ H xs us Q I r h
 obtain ⟨i,j,rfl,q⟩:=h
 obtain ⟨u,w',rfl,⟨t,rfl⟩,⟨t',rfl⟩⟩:=vals2 r
 refine min_two_ints (I.ok.hd hc) fun h' tk k=>⟨_,H,I.kept k,?_,q⟩
 by_cases hj:j < i
 ·rw [if_pos hj,if_pos hj];exact ⟨_,rfl⟩
 ·rw [if_neg hj,if_neg hj];exact ⟨_,rfl⟩
end
end L2
namespace L2
open PySem PySem.Spec PyProof.Rows
structure zbr (h:Heap) (x dx C:Addr) (mA:Str→Option Value):Prop where
 obj:h.get? x=some (PySem.W.instObj C dx)
 ns:h.Ns1 dx mA
 ne:dx≠x
theorem zjy {h:Heap} {dx:Addr} {mA:Str→Option Value} (n:h.Ns1 dx mA):∃od,h.get? dx=some od∧∀name,PySem.W.lookIn name od=some (mA name):=by
 obtain ⟨o,es,ep,ho,hd,hk,_,hm⟩:=n
 refine ⟨o,ho,fun name=>?_⟩
 have e:=hm name
 unfold nsFind findBy at e
 rw [←Array.find?_toList] at e
 unfold PySem.W.lookIn
 rw [hd]
 dsimp only
 split
 ·rename_i y q
  rw [q] at e
  exact congrArg some e
 ·rename_i q
  rw [q] at e
  have a:es.toList.any (·.refKey)=false:=by
   rw [List.any_eq_false]
   intro y hy
   obtain ⟨z,t,hkey⟩:=hk y (Array.mem_toList_iff.mp hy)
   simp [DictEntry.refKey,hkey]
  have a':¬es.toList.any (·.refKey)=true:=by rw [a];exact Bool.false_ne_true
  rw [if_neg a']
  exact congrArg some e
theorem zbr.look {h:Heap} {x dx C:Addr} {mA:Str→Option Value} (I:zbr h x dx C mA):∃od,PySem.W.InstAt h x (PySem.W.instObj C dx) C (some od)∧∀name,PySem.W.lookIn name od=some (mA name):=
 let ⟨od,ho,hl⟩:=zjy I.ns
 ⟨od,⟨I.obj,rfl,rfl,ho⟩,hl⟩
section
variable {prog:Program} {w:World} {A:Around} {E:Value→Shared→Prop} {s:Shared} {K:PySem.W.Frag} {x dx C f:Addr} {mA:Str→Option Value} {name:Str} {v:Value}
theorem zAA {expr:Bool} {Q:Value→Shared→Prop} (X:K.In s.heap) (I:zbr s.heap x dx C mA) (hg:PySem.W.plainGet K C name=true) (hh:PySem.W.hasDictIn K C=true)
  (ha:PySem.W.findIn K (.ref C) name=some none) (hv:mA name=some v) (hv':PySem.W.handedIn v=true) (h:Q v { s with toks:=s.toks + 1 }):
  wpAny (model prog w) A (getAttr (.ref x) name expr) Q E s:=by
 obtain ⟨od,J,hl⟩:=I.look
 exact PySem.W.get_value X J (PySem.W.plainGet_of hg).1 (PySem.W.findObj_own hh ha rfl (by rw [hl,hv])) hv' h
theorem zQj {ns:List Str} {Q:Unit→Shared→Prop} (X:K.In s.heap) (I:zbr s.heap x dx C mA)
  (hs:PySem.W.findIn K (.ref C) "__setattr__"=some (some (.builtin "object.__setattr__"))) (hp:PySem.W.plainOver K C=true) (ht:PySem.W.takerIn K C name=some none) (hh:PySem.W.hasDictIn K C=true)
  (hw:PySem.Within mA ns) (hsz:ns.length≤sizeLine)
  (h:∀h',zbr h' x dx C (fun y=>if y=name then some v else mA y)→Heap.SameBut dx s.heap h'→Q () { s with heap:=h',toks:=s.toks + 2 }):
  wpAny (model prog w) A (setAttr (.ref x) name v) Q E s:=by
 obtain ⟨od,J,hl⟩:=I.look
 refine PySem.W.set_plain X J hs (PySem.W.osa_open (s:={ s with toks:=s.toks + 1 }) (r:=none) X J hp ht fun b=>?_)
 obtain ⟨cd,hc,hd'⟩:=PySem.W.any_some hh
 have hx:s.heap.get? x=some ⟨.ref C,some dx,.plain,#[]⟩:=I.obj
 refine wpAny_bind (wpAny_pure (wpAny_bind (wpAny_bind (wpAny_loadPart hx (wpAny_bind (PySem.W.Looks.here (s:={ s with toks:=s.toks + 1 }) (PySem.W.looks_clsIn X hc) ?_))))))
 rw [hd']
 refine wpAny_pure (a:=some dx) (wpAny_bind (wpAny_pure (wpAny_bind ?_)))
 refine wpAny_nsSet1 (s:={ s with toks:=s.toks + 1 }) I.ns fun h' hn2 hs2=>?_
 obtain ⟨oD,esD,epD,hoD,hdD,hcD⟩:=hn2.count (PySem.Within.cons name v hw)
 refine wpAny_bind (wpAny_lookBehind hoD (by rw [hdD];exact pastItsLine_dict (Nat.le_trans hcD (by rw [List.length_cons];omega))) ?_)
 exact wpAny_pure (h _ ⟨(hs2.2 _ (Ne.symm I.ne)).trans I.obj,hn2,I.ne⟩ hs2)
theorem zRz {R:Result→Shared→Prop} {vs:List Value} {kw:List (Str×Value)} (X:K.In s.heap) (hm:PySem.W.makesIn K C=true)
  (hi:PySem.W.findIn K (.ref C) "__init__"=some (some (.ref f))) (hf:PySem.W.typeIn K (.ref f)=some (.type "function"))
  (h:codeAny (model prog w) (A.under (.builtin "type.__call__" ⟨.ref C::vs,kw⟩)) (.call (.ref f) ⟨.ref (s.heap.objs.size + 1)::vs,kw⟩) (PySem.W.InitBack (s.heap.objs.size + 1) R)
   { s with heap:=(s.heap.push PySem.W.emptyDict).push (PySem.W.instObj C s.heap.objs.size) }):
  codeAny (model prog w) A (.call (.ref C) ⟨vs,kw⟩) R s:=by
 obtain ⟨hh,g,d,t,os⟩:=s
 exact PySem.W.make_core (PySem.W.makes_of X hm) (PySem.W.looks_findIn X hi) (fun self=>PySem.W.bind_fn X self hf) (.inl rfl) h
end
def zr (f:Str) (v:V):List (Str×V)→List (Str×V)
 |[]=>[(f,v)]
 |(g,x)::r=>if g=f then (g,v)::r else (g,x)::zr f v r
theorem z8n (f g:Str) (v:V):∀fs:List (Str×V),(zr f v fs).lookup g=if g=f then some v else fs.lookup g
 |[]=>by
  show List.lookup g [(f,v)]=_
  by_cases h:g=f
  ·have hb:(g==f)=true:=beq_iff_eq.mpr h
   simp only [List.lookup,hb,if_pos h]
  ·have hb:(g==f)=false:=beq_eq_false_iff_ne.mpr h
   simp only [List.lookup,hb,if_neg h]
 |(k,x)::r=>by
  have ih:=z8n f g v r
  rw [show zr f v ((k,x)::r)=(if k=f then (k,v)::r else (k,x)::zr f v r) from rfl]
  by_cases hk:k=f
  ·rw [if_pos hk]
   by_cases h:g=k
   ·have hb:(g==k)=true:=beq_iff_eq.mpr h
    simp only [List.lookup,hb,if_pos (h.trans hk)]
   ·have hb:(g==k)=false:=beq_eq_false_iff_ne.mpr h
    simp only [List.lookup,hb,if_neg (fun e:g=f=>h (e.trans hk.symm))]
  ·rw [if_neg hk]
   by_cases h:g=k
   ·have hb:(g==k)=true:=beq_iff_eq.mpr h
    simp only [List.lookup,hb,if_neg (fun e:g=f=>hk (h.symm.trans e))]
   ·have hb:(g==k)=false:=beq_eq_false_iff_ne.mpr h
    simp only [List.lookup,hb]
    exact ih
theorem zRl (f:Str) (v:V):∀fs:List (Str×V),f∈(zr f v fs).map (·.1)∧∀g,g∈fs.map (·.1)→g∈(zr f v fs).map (·.1)
 |[]=>⟨by simp [zr],fun g h=>by simp at h⟩
 |(k,x)::r=>by
  obtain ⟨i1,i2⟩:=zRl f v r
  rw [show zr f v ((k,x)::r)=(if k=f then (k,v)::r else (k,x)::zr f v r) from rfl]
  by_cases hk:k=f
  ·rw [if_pos hk]
   subst hk
   exact ⟨by simp,fun g h=>by simpa using h⟩
  ·rw [if_neg hk]
   refine ⟨?_,fun g h=>?_⟩
   ·rw [List.map_cons]
    exact List.mem_cons_of_mem _ i1
   ·rw [List.map_cons] at h ⊢
    rcases List.mem_cons.mp h with e|e
    ·exact List.mem_cons.mpr (.inl e)
    ·exact List.mem_cons_of_mem _ (i2 g e)
theorem zRn (f:Str) (v:V):∀fs:List (Str×V),(zr f v fs).length≤fs.length + 1
 |[]=>by simp [zr]
 |(k,x)::r=>by
  have ih:=zRn f v r
  rw [show zr f v ((k,x)::r)=(if k=f then (k,v)::r else (k,x)::zr f v r) from rfl]
  by_cases hk:k=f
  ·rw [if_pos hk,List.length_cons,List.length_cons];omega
  ·rw [if_neg hk,List.length_cons,List.length_cons];omega
theorem zEe.some_of {v:V} {o:Option Value} (r:zEe (some v) o):∃u,o=some u∧RelV v u:=by
 cases o with
 |none=>exact (show False from r).elim
 |some u=>exact ⟨u,rfl,r⟩
theorem zMx {v:V} {u:Value} (r:RelV v u):PySem.W.handedIn u=true:=by
 cases v with
 |non=>cases (show u=Value.none from r);rfl
 |bl b=>cases (show u=Value.bool b from r);rfl
 |int i=>obtain ⟨t,e⟩:=(show ∃t,u=Value.int i t from r);cases e;rfl
 |str x=>obtain ⟨t,e⟩:=(show ∃t,u=Value.str x t from r);cases e;rfl
 |byt b=>obtain ⟨t,e⟩:=(show ∃t,u=Value.bytes b t from r);cases e;rfl
 |flt b=>obtain ⟨t,e⟩:=(show ∃t,u=Value.float b t from r);cases e;rfl
 |ref a=>cases (show u=Value.ref a from r);rfl
 |ty n=>cases (show u=Value.type n from r);rfl
section
variable {P:Program} {w:World} {H H':Hp} {h h':Heap} {a C dx:Addr} {fs fs':List (Str×V)}
theorem zWv (hok:HOk P w H h) (e:H a=some (.ins C dx fs)):∃mA,zbr h a dx C mA∧(∀f,zEe (fs.lookup f) (mA f))∧PySem.Within mA (fs.map (·.1))∧fs.length≤1000∧H dx=some (.own a):=by
 obtain ⟨d,z,ne,ob,mA,n,r,q⟩:=(show zzb P w H h a (.ins C dx fs) from hok a _ e)
 exact ⟨mA,⟨ob,n,ne⟩,r,q,z,d⟩
end
structure Cls (K:PySem.W.Frag) (C:Addr):Prop where
 pg:PySem.W.plainGet K C Str.empty=true
 hd:PySem.W.hasDictIn K C=true
 po:PySem.W.plainOver K C=true
 sa:PySem.W.findIn K (.ref C) "__setattr__"=some (some (.builtin "object.__setattr__"))
theorem Cls.get {K:PySem.W.Frag} {C:Addr} (c:Cls K C) (f:Str):PySem.W.plainGet K C f=true:=c.pg
def zhb (K:PySem.W.Frag) (C:Addr) (f:Str):Prop:=PySem.W.findIn K (.ref C) f=some none
theorem zhb.taker {K:PySem.W.Frag} {C:Addr} {f:Str} (n:zhb K C f):PySem.W.takerIn K C f=some none:=by
 unfold PySem.W.takerIn
 rw [show PySem.W.findIn K (.ref C) f=some none from n]
 rfl
section
variable {X:Cx} {pins:List (Addr×Obj)} {σ:St} {H:Hp} {s:Shared} {a C dx:Addr} {fs:List (Str×V)} {f:Str} {v:V} {A:Around} {E:Value→Shared→Prop}
theorem zDp {b:Bool} {Q:Value→Shared→Prop} (I:Inv X pins σ H s) (e:H a=some (.ins C dx fs)) (c:Cls X.K C) (n:zhb X.K C f) (l:fs.lookup f=some v)
  (h:∀u s',Inv X pins σ H s'→RelV v u→Q u s'):wpAny (model X.prog X.w) A (getAttr (.ref a) f b) Q E s:=by
 obtain ⟨mA,O,r,_,_,_⟩:=zWv I.hok e
 obtain ⟨u,hu,ru⟩:=zEe.some_of (v:=v) (o:=mA f) (by rw [←l];exact r f)
 exact zAA I.kIn O (c.get f) c.hd n hu (zMx ru) (h u _ (I.tok _) ru)
theorem z3p {y:V} {u:Value} {Q:Unit→Shared→Prop} (I:Inv X pins σ H s) (e:H a=some (.ins C dx fs)) (c:Cls X.K C) (n:zhb X.K C f) (hl:fs.length < 1000) (ry:RelV y u)
  (h:∀s',Inv X pins σ (upd H a (.ins C dx (zr f y fs))) s'→Q () s'):wpAny (model X.prog X.w) A (setAttr (.ref a) f u) Q E s:=by
 obtain ⟨mA,O,r,wi,_,ho⟩:=zWv I.hok e
 have hz:(fs.map (·.1)).length≤sizeLine:=by rw [List.length_map,sizeLine_eq];omega
 refine zQj I.kIn O c.sa c.po n.taker c.hd wi hz fun h' O' sb=>h _ ?_
 have hd:∃o,h'.get? dx=some o:=let ⟨o,_,_,e',_⟩:=O'.ns;⟨o,e'⟩
 refine I.write (x:=a) (e:=dx) (by rw [e];exact True.intro) (.inr ho) (fun b q hb z=>(sb.2 b hb).trans z) hd ?_
 refine ⟨by rw [zi O.ne];exact ho,?_,O.ne,O'.obj,_,O'.ns,fun g=>?_,fun g hg=>?_⟩
 ·have:=zRn f y fs;omega
 ·show zEe ((zr f y fs).lookup g) (if g=f then some u else mA g)
  rw [z8n]
  by_cases q:g=f
  ·rw [if_pos q,if_pos q];exact ry
  ·rw [if_neg q,if_neg q];exact r g
 ·by_cases q:g=f
  ·rw [q];exact (zRl f y fs).1
  ·refine (zRl f y fs).2 g (wi g fun z=>hg ?_)
   show (if g=f then some u else mA g)=none
   rw [if_neg q];exact z
theorem Inv.made (I:Inv X pins σ H s):Inv X pins σ (upd (upd H s.heap.objs.size (.own (s.heap.objs.size + 1))) (s.heap.objs.size + 1) (.ins C s.heap.objs.size []))
  { s with heap:=(s.heap.push PySem.W.emptyDict).push (PySem.W.instObj C s.heap.objs.size) }:=by
 have e1:(s.heap.push PySem.W.emptyDict).get? s.heap.objs.size=some PySem.W.emptyDict:=Heap.get?_push_size s.heap rfl
 have e2:((s.heap.push PySem.W.emptyDict).push (PySem.W.instObj C s.heap.objs.size)).get? (s.heap.objs.size + 1)=some (PySem.W.instObj C s.heap.objs.size):=by
  have:=Heap.get?_push_size (s.heap.push PySem.W.emptyDict) (o:=PySem.W.instObj C s.heap.objs.size) rfl
  rwa [Heap.size_push] at this
 have e3:(s.heap.push PySem.W.emptyDict).Ns s.heap.objs.size (fun _=>none):=⟨PySem.W.emptyDict,#[],_,e1,rfl,(fun e he=>absurd he (by simp)),fun _=>rfl⟩
 have I1:=I.laid (a:=s.heap.objs.size) (o:=.own (s.heap.objs.size + 1)) (h':=s.heap.push PySem.W.emptyDict) (t':=s.toks) (fun b u q=>Heap.get?_push_of_some _ q) (Nat.le_refl _) ⟨_,e1⟩
 refine I1.laid (a:=s.heap.objs.size + 1) (o:=.ins C s.heap.objs.size []) (t':=s.toks) (fun b u q=>Heap.get?_push_of_some _ q) (Nat.le_of_eq (Heap.size_push _ _)) ?_
 have ne:s.heap.objs.size≠s.heap.objs.size + 1:=Nat.ne_of_lt (Nat.lt_succ_self _)
 refine ⟨by rw [zi ne,zc],Nat.zero_le _,ne,e2,fun _=>none,(Heap.Ns1.of_empty e3).at fun o q=>Heap.get?_push_of_some _ q,fun _=>True.intro,fun y hy=>absurd rfl hy⟩
theorem ziA {prog:Program} {w:World} {env:Env} {e:Expr} {f:Str} {pos:Pos} {s:Shared} {Q:Value→Shared→Prop} (hb:attributeBase e f env (eval e env)=eval e env)
  (h:wpAny (model prog w) A (eval e env) (fun o s₁=>wpAny (model prog w) A (getAttr o f true) Q E s₁) E s):wpAny (model prog w) A (eval (.Attribute e f pos) env) Q E s:=
 Attribute_any_ h (by rw [arm_eval_Attribute,hb])
end
def z6h (K:PySem.W.Frag) (ta:TE) (f:Str):TE:=fun σ H Q=>ta σ H fun x H1=>∃a C dx fs v,x=.ref a∧H1 a=some (.ins C dx fs)∧Cls K C∧zhb K C f∧fs.lookup f=some v∧Q v H1
def z1C (K:PySem.W.Frag) (ta tv:TE) (f:Str):TS:=fun D σ H=>tv σ H fun y H1=>ta σ H1 fun x H2=>∃a C dx fs,x=.ref a∧H2 a=some (.ins C dx fs)∧Cls K C∧zhb K C f∧fs.length < 1000∧
 D.nx σ (upd H2 a (.ins C dx (zr f y fs)))
def zHz (X:Cx) (op:Operator) (rd:V→V→Hp→VK→Prop):Prop:=
 ∀(pins:List (Addr×Obj)) (s:Shared) (σ:St) (H:Hp) (x y:V) (u v:Value) (Q:VK),Inv X pins σ H s→RelV x u→RelV y v→rd x y H Q→wpAny (model X.prog X.w) X.A (inplaceOp op u v) (EP X pins σ Q) X.xe s
def z6A (K:PySem.W.Frag) (ta tv:TE) (rd:V→V→Hp→VK→Prop) (f:Str):TS:=fun D σ H=>ta σ H fun x H1=>∃a C dx fs v,x=.ref a∧H1 a=some (.ins C dx fs)∧Cls K C∧zhb K C f∧fs.lookup f=some v∧
 tv σ H1 fun y H2=>rd v y H2 fun z H3=>∃dx' fs',H3 a=some (.ins C dx' fs')∧fs'.length < 1000∧D.nx σ (upd H3 a (.ins C dx' (zr f z fs')))
section
variable {X:Cx} {o e value:Expr} {f:Str} {pos pos' tpos:Pos} {ta tv:TE}
theorem zf (he:PE X e ta) (hb:attributeBase e f X.env (eval e X.env)=eval e X.env):PE X (.Attribute e f pos) (z6h X.K ta f):=by
 intro pins s σ H Q I h
 refine ziA hb (thn (he pins s σ H _ I h) fun u s1 ⟨x,H1,I1,rx,a,C,dx,fs,v,ex,ea,c,n,l,q⟩=>?_)
 subst ex
 obtain rfl:u=Value.ref a:=rx
 exact zDp I1 ea c n l fun u' s2 I2 ru=>⟨v,H1,I2,ru,q⟩
theorem zdb (ha:PE X o ta) (hv:PE X value tv) (hs:swapsWith value (some (.Attribute o f pos')) pos.line X.env=pure false):PS X (.Assign [.Attribute o f pos'] value pos) (z1C X.K ta tv f):=by
 intro pins s σ H D I h
 refine plainObj_wpAny_Assign_Attribute (thn (hv pins s σ H _ I h) fun u s1 ⟨y,H1,I1,ry,q⟩=>thn (ha pins s1 σ H1 _ I1 q) fun ov s2 ⟨x,H2,I2,rx,a,C,dx,fs,ex,ea,c,n,l,q2⟩=>?_) hs
 subst ex
 obtain rfl:ov=Value.ref a:=rx
 exact z3p I2 ea c n l ry fun s3 I3=>⟨σ,_,I3,q2⟩
theorem zMf {op:Operator} {rd:V→V→Hp→VK→Prop} (ha:PE X o ta) (hv:PE X value tv) (hop:zHz X op rd):PS X (.AugAssign (.Attribute o f tpos) op value pos) (z6A X.K ta tv rd f):=by
 intro pins s σ H D I h
 refine wpAny_AugAssign_AttributeAny (thn (ha pins s σ H _ I h) fun ov s1 ⟨x,H1,I1,rx,a,C,dx,fs,v,ex,ea,c,n,l,q⟩=>?_)
 subst ex
 obtain rfl:ov=Value.ref a:=rx
 refine zDp I1 ea c n l fun u s2 I2 ru=>thn (hv pins s2 σ H1 _ I2 q) fun w3 s3 ⟨y,H2,I3,ry,q3⟩=>thn (hop pins s3 σ H2 v y u w3 _ I3 ru ry q3) fun w4 s4 ⟨z,H3,I4,rz,dx',fs',ea',l',q4⟩=>?_
 exact z3p I4 ea' c n l' rz fun s5 I5=>⟨σ,_,I5,q4⟩
def znD:V→V→Hp→VK→Prop:=fun x y H Q=>∃i j,x=.int i∧y=.int j∧Q (.int (i + j)) H
def zVC:V→V→Hp→VK→Prop:=fun x y H Q=>∃i j,x=.int i∧y=.int j∧Q (.int (i - j)) H
theorem zXm:zHz X .Add znD:=by
 rintro pins s σ H x y u v Q I rx ry ⟨i,j,rfl,rfl,q⟩
 obtain ⟨t,rfl⟩:=(show ∃t,u=Value.int i t from rx)
 obtain ⟨t',rfl⟩:=(show ∃t',v=Value.int j t' from ry)
 exact PyProof.Rows.iadd_int ⟨.int (i + j),H,I.tok _,⟨_,rfl⟩,q⟩
theorem zdB:zHz X .Sub zVC:=by
 rintro pins s σ H x y u v Q I rx ry ⟨i,j,rfl,rfl,q⟩
 obtain ⟨t,rfl⟩:=(show ∃t,u=Value.int i t from rx)
 obtain ⟨t',rfl⟩:=(show ∃t',v=Value.int j t' from ry)
 exact PyProof.Rows.isub_int ⟨.int (i - j),H,I.tok _,⟨_,rfl⟩,q⟩
end
end L2
namespace L2
open PySem PySem.Spec PyProof.Rows
structure zhc (k:Nat) (A:Around):Prop where
 hd:A.handled=none
 dp:A.depth + 3 * k + 5 < recursionLimit
 un:A.units + 16 * k + 200 < cLine
theorem zhc.mono {j k:Nat} {A:Around} (r:zhc k A) (h:j≤k):zhc j A:=⟨r.hd,by have:=r.dp;omega,by have:=r.un;omega⟩
theorem zhc.deeper {k:Nat} {A:Around} (r:zhc (k + 1) A) (env:Env):zhc k (A.deeper env):=
 ⟨r.hd,by have:=r.dp;show A.depth + 1 + 3 * k + 5 < _;omega,by have:=r.un;show A.units + 3 + 16 * k + 200 < _;omega⟩
theorem zex {A:Around} {C:Addr} {us:List Value} {kw:List (Str×Value)}:(A.under (.builtin "type.__call__" ⟨.ref C::us,kw⟩)).depth=A.depth + 1:=by
 first|rfl|simp [Around.under,Code.weight,Code.isCreation,Code.isGuard,Code.isCaller,Code.frames,Code.isFrame,guardIds]
theorem zlw {A:Around} {C:Addr} {us:List Value} {kw:List (Str×Value)}:(A.under (.builtin "type.__call__" ⟨.ref C::us,kw⟩)).units=A.units + 1:=by
 first|rfl|simp [Around.under,Code.cUnits,Code.frames,Code.isFrame]
theorem zhc.make {k:Nat} {A:Around} (r:zhc (k + 1) A) (C:Addr) (us:List Value) (kw:List (Str×Value)):zhc k (A.under (.builtin "type.__call__" ⟨.ref C::us,kw⟩)):=
 ⟨r.hd,by have:=r.dp;rw [zex];omega,by have:=r.un;rw [zlw];omega⟩
theorem zhc.depth {k:Nat} {A:Around} (r:zhc k A):A.depth < recursionLimit:=by have:=r.dp;omega
theorem zhc.units {k:Nat} {A:Around} (r:zhc k A):A.units + 64 < cLine:=by have:=r.un;omega
def zjh:TA:=fun _ H Q=>Q [] H
def zVd (ta:TE) (tr:TA):TA:=fun σ H Q=>ta σ H fun x H1=>tr σ H1 fun xs H2=>Q (x::xs) H2
section
variable {X:Cx} {e:Expr} {es:List Expr} {te:TE} {t:TA} {pos:Pos}
theorem zb:PA X [] zjh:=fun _ _ _ _ H Q I h=>Calls.spliced_nil ⟨[],H,I,.nil,h⟩
theorem za (ha:PE X e te) (hr:PA X es t) (hs:starEach (e::es) X.env=(false,eval e X.env)::starEach es X.env:=by rfl):PA X (e::es) (zVd te t):=by
 intro pos pins s σ H Q I h
 rw [hs]
 show wpAny _ _ (spliced ((false,eval e X.env)::backTo pos (starEach es X.env))) _ _ s
 refine Calls.spliced_cons (thn (ha pins s σ H _ I h) fun u s1 ⟨x,H1,I1,r1,q1⟩=>?_)
 exact thn (hr pos pins s1 σ H1 _ I1 q1) fun us s2 ⟨xs,H2,I2,r2,q2⟩=>⟨x::xs,H2,I2,.cons r1 r2,q2⟩
def zFz (t:TA):TE:=fun σ H Q=>t σ H fun xs H1=>xs.length≤sizeLine∧∀p,H1 p=none→Q (.ref p) (upd H1 p (.tup xs))
def zoD (t:TA):TE:=fun σ H Q=>t σ H fun xs H1=>xs.length≤sizeLine∧∀p,H1 p=none→Q (.ref p) (upd H1 p (.lst xs))
theorem zjf {x1} (h:PA X es t):PE X (.Tuple es x1 pos) (zFz t):=by
 intro pins s σ H Q I hq
 refine wpAny_Tuple_spliced (thn (h pos pins s σ H _ I hq) fun us s1 ⟨xs,H1,I1,r,z,q⟩=>⟨by rw [←r.length];exact z,?_⟩)
 have hf:H1 s1.heap.objs.size=none:=I1.hok.fresh (Nat.le_refl _)
 refine ⟨.ref s1.heap.objs.size,upd H1 s1.heap.objs.size (.tup xs),I1.laid (t':=s1.toks) (fun b u e=>Heap.get?_push_of_some _ e) (Nat.le_refl _) ?_,rfl,q _ hf⟩
 exact ⟨z,us,r,⟨_,Heap.get?_push_size _ rfl,rfl,_,rfl⟩⟩
theorem zA (h:PA X es t):PE X (.List es pos) (zoD t):=by
 intro pins s σ H Q I hq
 refine wpAny_List_spliced (thn (h pos pins s σ H _ I hq) fun us s1 ⟨xs,H1,I1,r,z,q⟩=>⟨by rw [←r.length];exact z,?_⟩)
 have hf:H1 s1.heap.objs.size=none:=I1.hok.fresh (Nat.le_refl _)
 refine ⟨.ref s1.heap.objs.size,upd H1 s1.heap.objs.size (.lst xs),I1.laid (t':=s1.toks) (fun b u e=>Heap.get?_push_of_some _ e) (Nat.le_refl _) ?_,rfl,q _ hf⟩
 exact ⟨z,us,0,r,Heap.get?_push_size _ rfl⟩
end
abbrev Sp:=List V→Hp→VK→XK→Prop
abbrev CXT:=List Env→Hp→Shared→XK→Value→Shared→Prop
structure zto (P:Program) (w:World) (K:PySem.W.Frag) (mg:Str→Option Value) (base:Heap) (A:Around) (outer:List Env) (s:Shared) (H:Hp):Prop where
 frames:A.frames=some outer
 mod:Mod K mg base
 bs:∀b o,base.get? b=some o→s.heap.get? b=some o∧H b=none
 bsz:base.objs.size≤s.heap.objs.size
 funs:s.heap.FunFrames base outer
 frf:∀b∈frs outer,H b=none
 hok:HOk P w H s.heap
 bare:AllBare s.gens
def CE (outer:List Env) (P:Program) (w:World) (H:Hp) (s:Shared) (Q:VK) (u:Value) (s':Shared):Prop:=
 ∃v H',s'.os=s.os∧AllBare s'.gens∧Un (frs outer) [] H H' s.heap s'.heap∧HOk P w H' s'.heap∧RelV v u∧Q v H'
def CR (CX:CXT) (outer:List Env) (P:Program) (w:World) (H:Hp) (s:Shared) (Q:VK) (E:XK) (r:Result) (s':Shared):Prop:=
 match r with
 |.ok (.ret u)=>CE outer P w H s Q u s'
 |.ok _=>False
 |.error e=>CX outer H s E e s'
structure zG (P:Program) (w:World) (K:PySem.W.Frag) (mg:Str→Option Value) (base:Heap) (CX:CXT) (k:Nat) (f:Addr) (fd:FuncData) (ps:List Str) (sp:Sp):Prop where
 len:∀vs H Q E,sp vs H Q E→vs.length=ps.length
 run:∀(A:Around) (outer:List Env) (s:Shared) (H:Hp) (args:Args) (us:List Value) (vs:List V) (Q:VK) (E:XK),zhc k A→zto P w K mg base A outer s H→BindsTo s fd args (ps.zip us)→Vals vs us→sp vs H Q E→
  codeAny (model P w) A (.call (.ref f) args) (CR CX outer P w H s Q E) s
theorem zto.make {P:Program} {w:World} {K:PySem.W.Frag} {mg:Str→Option Value} {base:Heap} {A:Around} {outer:List Env} {s:Shared} {H:Hp} (e:zto P w K mg base A outer s H) (C:Addr) (us:List Value) (kw:List (Str×Value)):
  zto P w K mg base (A.under (.builtin "type.__call__" ⟨.ref C::us,kw⟩)) outer s H:=⟨by first|exact e.frames|(simpa [Around.under,Code.envs,Code.isFrame,pushEnvs] using e.frames),e.mod,e.bs,e.bsz,e.funs,e.frf,e.hok,e.bare⟩
section
variable {X:Cx} {pins:List (Addr×Obj)} {σ:St} {H:Hp} {s s':Shared}
theorem Inv.env0 (I:Inv X pins σ H s):zto X.prog X.w X.K X.mg X.base X.A X.stack s H:=
 ⟨I.ok.frames,I.ok.mod,I.bs,Nat.le_trans I.ok.bsz I.sz,I.stack,I.stkFree,I.hok,I.bare⟩
theorem Inv.after {Q:VK} {u:Value} (I:Inv X pins σ H s) (h:CE X.stack X.prog X.w H s Q u s'):EP X pins σ Q u s':=by
 obtain ⟨v,H',os,bare,un,hok,r,q⟩:=h
 obtain ⟨hh,g,d,t,os'⟩:=s'
 obtain rfl:os'=s.os:=os
 exact ⟨v,H',I.call (h':=hh) (g':=g) (d':=d) (t':=t) (ch:=[]) un hok bare (fun b z=>absurd z (by simp)),r,q⟩
end
def zEh (sp:Sp) (dvs:List V) (E:XK) (t:TA):TE:=fun σ H Q=>t σ H fun vs H1=>sp (vs++dvs) H1 Q E
def z0z (C:Addr) (sp:Sp) (dvs:List V) (E:XK) (t:TA):TE:=fun σ H Q=>t σ H fun vs H1=>∀x dx,H1 x=none→H1 dx=none→dx≠x→
 sp (.ref x::(vs++dvs)) (upd (upd H1 dx (.own x)) x (.ins C dx [])) (fun v H2=>v=.non∧Q (.ref x) H2) E
def Binds (K:PySem.W.Frag) (fd:FuncData) (ps:List Str) (ds:List Value):Prop:=
 ∀(s:Shared) (us:List Value),K.In s.heap→(us++ds).length=ps.length→BindsTo s fd ⟨us,[]⟩ (ps.zip (us++ds))
theorem Binds.all {K:PySem.W.Frag} {fd:FuncData} {ps:List Str} (h:∀us:List Value,us.length=ps.length→bindArgs fd ⟨us,[]⟩=pure (ps.zip us)):Binds K fd ps []:=fun s us _ hl=>by
 rw [List.append_nil] at hl ⊢
 exact .of_eq (h us hl)
def zZj (CX:CXT) (X:Cx) (E:XK):Prop:=∀(pins:List (Addr×Obj)) (σ:St) (H:Hp) (s:Shared) (e:Value) (s':Shared),Inv X pins σ H s→CX X.stack H s E e s'→X.xe e s'
section
variable {X:Cx} {CX:CXT} {k:Nat} {f C:Addr} {fd:FuncData} {ps:List Str} {sp:Sp} {dvs:List V} {ds:List Value} {E:XK} {x m:Str} {p pos apos:Pos} {e o:Expr} {es:List Expr} {ta:TE} {t:TA}
theorem zPB {pins:List (Addr×Obj)} {σ:St} {H:Hp} {s:Shared} {Q:VK} {us:List Value} {vs:List V} (F:zG X.prog X.w X.K X.mg X.base CX k f fd ps sp) (hr:zhc k X.A) (hb:Binds X.K fd ps ds) (hd:Vals dvs ds) (hx:zZj CX X E)
  (I:Inv X pins σ H s) (r:Vals vs us) (h:sp (vs++dvs) H Q E):wpAny (model X.prog X.w) X.A (call (.ref f) us) (EP X pins σ Q) X.xe s:=by
 have r2:Vals (vs++dvs) (us++ds):=r.append hd
 have hl:(us++ds).length=ps.length:=by rw [←r2.length];exact F.len _ _ _ _ h
 refine wpAny_call (codeAny_mono (F.run X.A X.stack s H ⟨us,[]⟩ (us++ds) (vs++dvs) Q E hr I.env0 (hb s us I.kIn hl) r2 h) fun r s' hq=>?_)
 cases r with
 |error e=>exact hx pins σ H s e s' I hq
 |ok fl=>
  cases fl with
  |ret u=>exact I.after hq
  |next=>exact False.elim hq
  |brk=>exact False.elim hq
  |cont=>exact False.elim hq
theorem z4m (F:zG X.prog X.w X.K X.mg X.base CX k f fd ps sp) (hr:zhc k X.A) (hg:Gl X x) (hm:X.mg x=some (.ref f)) (hk:PySem.W.keepIn X.K (.ref f)=true) (hb:Binds X.K fd ps ds) (hd:Vals dvs ds) (hx:zZj CX X E)
  (ha:PA X (e::es) t) (hdb:(x==("__debug__":Str))=false:=by decide) (he:starEach (e::es) X.env=(false,eval e X.env)::starEach es X.env:=by rfl) (hpl:(backTo pos (starEach es X.env)).any (·.1)=false:=by rfl):
  PE X (.Call (.Name x p) (e::es) [] pos) (zEh sp dvs E t):=by
 intro pins s σ H Q I h
 refine wpAny_Call_Name_kw (znn I hg hm ?_ hdb)
 refine PySem.W.callWith_K (h₀:=X.base) I.ok.mod.kin hk (thn (ha pos pins s σ H _ I h) fun us s1 ⟨vs,H1,I1,r,q⟩=>⟨I1.kIn,?_⟩) he hpl
 exact zPB F hr hb hd hx I1 r q
structure Mk (K:PySem.W.Frag) (C f:Addr):Prop where
 makes:PySem.W.makesIn K C=true
 init:PySem.W.findIn K (.ref C) "__init__"=some (some (.ref f))
 fn:PySem.W.isFn K (.ref f)=true
 kp:PySem.W.keepIn K (.ref C)=true
theorem zZs {pins:List (Addr×Obj)} {σ:St} {H:Hp} {s:Shared} {Q:VK} {us:List Value} {vs:List V} (M:Mk X.K C f) (F:zG X.prog X.w X.K X.mg X.base CX k f fd ps sp) (hr:zhc (k + 1) X.A) (hb:Binds X.K fd ps ds) (hd:Vals dvs ds)
  (hx:zZj CX X E) (I:Inv X pins σ H s) (r:Vals vs us)
  (h:∀x dx,H x=none→H dx=none→dx≠x→sp (.ref x::(vs++dvs)) (upd (upd H dx (.own x)) x (.ins C dx [])) (fun v H2=>v=.non∧Q (.ref x) H2) E):
  wpAny (model X.prog X.w) X.A (call (.ref C) us) (EP X pins σ Q) X.xe s:=by
 have hq:=h (s.heap.objs.size + 1) s.heap.objs.size (I.hok.fresh (Nat.le_succ _)) (I.hok.fresh (Nat.le_refl _)) (Nat.ne_of_lt (Nat.lt_succ_self _))
 have I2:=Inv.made (C:=C) I
 have r2:Vals (V.ref (s.heap.objs.size + 1)::(vs++dvs)) (Value.ref (s.heap.objs.size + 1)::(us++ds)):=.cons rfl (r.append hd)
 have hl:(Value.ref (s.heap.objs.size + 1)::us++ds).length=ps.length:=by
  have e:=r2.length
  rw [F.len _ _ _ _ hq] at e
  exact e.symm
 refine wpAny_call (zRz (f:=f) I.kIn M.makes M.init (beq_iff_eq.mp M.fn) (codeAny_mono (F.run _ X.stack _ _ ⟨Value.ref (s.heap.objs.size + 1)::us,[]⟩ (Value.ref (s.heap.objs.size + 1)::(us++ds)) _ _ E (hr.make C us [])
  (I2.env0.make C us []) (hb _ (Value.ref (s.heap.objs.size + 1)::us) I2.kIn hl) r2 hq) fun r s' hq'=>?_))
 cases r with
 |error e=>exact hx pins σ _ _ e s' I2 hq'
 |ok fl=>
  cases fl with
  |ret u=>
   obtain ⟨v,H',I3,rv,ev,q3⟩:=I2.after hq'
   subst ev
   exact ⟨rv,⟨V.ref (s.heap.objs.size + 1),H',I3,rfl,q3⟩⟩
  |next=>exact False.elim hq'
  |brk=>exact False.elim hq'
  |cont=>exact False.elim hq'
theorem zYf (M:Mk X.K C f) (F:zG X.prog X.w X.K X.mg X.base CX k f fd ps sp) (hr:zhc (k + 1) X.A) (hg:Gl X x) (hm:X.mg x=some (.ref C)) (hb:Binds X.K fd ps ds) (hd:Vals dvs ds) (hx:zZj CX X E)
  (ha:PA X (e::es) t) (hdb:(x==("__debug__":Str))=false:=by decide) (he:starEach (e::es) X.env=(false,eval e X.env)::starEach es X.env:=by rfl) (hpl:(backTo pos (starEach es X.env)).any (·.1)=false:=by rfl):
  PE X (.Call (.Name x p) (e::es) [] pos) (z0z C sp dvs E t):=by
 intro pins s σ H Q I h
 refine wpAny_Call_Name_kw (znn I hg hm ?_ hdb)
 refine PySem.W.callWith_K (h₀:=X.base) I.ok.mod.kin M.kp (thn (ha pos pins s σ H _ I h) fun us s1 ⟨vs,H1,I1,r,q⟩=>⟨I1.kIn,?_⟩) he hpl
 exact zZs M F hr hb hd hx I1 r q
theorem zNz (M:Mk X.K C f) (F:zG X.prog X.w X.K X.mg X.base CX k f fd ps sp) (hr:zhc (k + 1) X.A) (hg:Gl X x) (hm:X.mg x=some (.ref C)) (hb:Binds X.K fd ps ds) (hd:Vals dvs ds) (hx:zZj CX X E)
  (hdb:(x==("__debug__":Str))=false:=by decide):PE X (.Call (.Name x p) [] [] pos) (z0z C sp dvs E zjh):=by
 intro pins s σ H Q I h
 refine wpAny_Call_Name_kw (znn I hg hm ?_ hdb)
 exact PySem.W.callWith_K0 I.kIn M.kp (zZs (us:=[]) M F hr hb hd hx I .nil h)
end
structure zu (N P:List Str) (sc:Scope):Prop where
 kind:sc.kind=.function
 co:sc.isCoroutine=false
 gen:sc.isGenerator=false
 nd:N.Nodup
 pre:N.take P.length=P
 par:∀x∈P,sc.names.lookup x=some .local∨sc.names.lookup x=some .cell
 nofree:∀y∈sc.names,y.2≠.free
theorem zrr {kindOf:Str→Option NameKind} {x:Str}:∀{binds:List (Str×Value)} {m:Str→Option Value},(∀v,(x,v)∉binds)→bindL kindOf binds m x=m x
 |[],_,_=>rfl
 |(n,v)::r,m,h=>by
  unfold bindL
  rw [zrr fun w hw=>h w (List.mem_cons_of_mem _ hw)]
  split
  ·have:x≠n:=by rintro rfl;exact h v List.mem_cons_self
   simp [this]
  ·rfl
theorem zvr {kindOf:Str→Option NameKind} {x:Str}:∀{binds:List (Str×Value)} {m:Str→Option Value},(∀v,(x,v)∉binds)→bindC kindOf binds m x=m x
 |[],_,_=>rfl
 |(n,v)::r,m,h=>by
  unfold bindC
  rw [zvr fun w hw=>h w (List.mem_cons_of_mem _ hw)]
  split
  ·rfl
  ·have:x≠n:=by rintro rfl;exact h v List.mem_cons_self
   simp [this]
theorem z4r {kindOf:Str→Option NameKind} {x:Str} {v:Value}:∀{P:List Str} {vs:List Value} {i:Nat} {m:Str→Option Value},P.Nodup→P[i]?=some x→vs[i]?=some v→kindOf x=some .local→
  bindL kindOf (P.zip vs) m x=some v
 |[],_,_,_,_,h,_,_=>by simp at h
 |_::_,[],_,_,_,_,h,_=>by simp at h
 |p::P,w::vs,0,m,nd,h1,h2,hk=>by
  simp at h1 h2;subst h1;subst h2
  show bindL kindOf ((p,w)::P.zip vs) m p=_
  unfold bindL
  rw [zrr fun v hv=>(List.nodup_cons.mp nd).1 (List.of_mem_zip hv).1,if_pos hk]
  simp
 |p::P,w::vs,i + 1,m,nd,h1,h2,hk=>by
  show bindL kindOf ((p,w)::P.zip vs) m x=_
  unfold bindL
  exact z4r (i:=i) (List.nodup_cons.mp nd).2 (by simpa using h1) (by simpa using h2) hk
theorem zor {kindOf:Str→Option NameKind} {x:Str} {v:Value}:∀{P:List Str} {vs:List Value} {i:Nat} {m:Str→Option Value},P.Nodup→P[i]?=some x→vs[i]?=some v→kindOf x≠some .local→
  bindC kindOf (P.zip vs) m x=some v
 |[],_,_,_,_,h,_,_=>by simp at h
 |_::_,[],_,_,_,_,h,_=>by simp at h
 |p::P,w::vs,0,m,nd,h1,h2,hk=>by
  simp at h1 h2;subst h1;subst h2
  show bindC kindOf ((p,w)::P.zip vs) m p=_
  unfold bindC
  rw [zvr fun v hv=>(List.nodup_cons.mp nd).1 (List.of_mem_zip hv).1,if_neg hk]
  simp
 |p::P,w::vs,i + 1,m,nd,h1,h2,hk=>by
  show bindC kindOf ((p,w)::P.zip vs) m x=_
  unfold bindC
  exact zor (i:=i) (List.nodup_cons.mp nd).2 (by simpa using h1) (by simpa using h2) hk
def start (N:List Str) (vs:List V):St:=vs.map some++List.replicate (N.length - vs.length) none
def zKo (CX:CXT) (P:Program) (w:World) (K:PySem.W.Frag) (mg:Str→Option Value) (base:Heap) (N:List Str) (qual:Str) (scope:Scope) (f:Addr) (cd:Value) (A:Around) (outer:List Env) (s:Shared) (H:Hp) (E:XK):Cx where
 prog:=P
 w:=w
 K:=K
 mg:=mg
 base:=base
 A:=A.deeper (envOfC qual scope s.heap.objs.size f cd)
 N:=N
 s_0:=s
 H_0:=H
 env:=envOfC qual scope s.heap.objs.size f cd
 outer:=outer
 stack:=envOfC qual scope s.heap.objs.size f cd::outer
 ex:=[]
 calm:=true
 fn:=fun _=>true
 pn:=[]
 xe:=fun e s'=>wpAny (model P w) (A.deeper (envOfC qual scope s.heap.objs.size f cd)) (leaving (envOfC qual scope s.heap.objs.size f cd) e) (fun _ s''=>CX outer H s E e s'') (fun e' s''=>CX outer H s E e' s'') s'
theorem z7s {sc:Scope} {n:Nat} {x:Str} (h:sc.names.lookup x=some .cell):∃c,(cellsFrom n sc.names []).lookup x=some c:=by
 have q:=PySem.W.cellsFrom_some sc.names n [] (.inl h)
 exact Option.isSome_iff_exists.mp q
theorem z8x {CX:CXT} {P:Program} {w:World} {K:PySem.W.Frag} {mg:Str→Option Value} {base:Heap} {N ps:List Str} {qual:Str} {scope:Scope} {f:Addr} {cd:Value} {A:Around} {outer:List Env} {s s1:Shared} {H:Hp} {E:XK} {us:List Value} {vs:List V}
  (S:zu N ps scope) (hd:A.handled=none) (e0:zto P w K mg base A outer s H) (hl:vs.length=ps.length) (r:Vals vs us)
  (x:InCallC s s.heap.objs.size (bindL (envOfC qual scope s.heap.objs.size f cd).kindOf (ps.zip us) fun _=>none) (cellsFrom (s.heap.objs.size + 1) scope.names []) (bindC (envOfC qual scope s.heap.objs.size f cd).kindOf (ps.zip us) fun _=>none) s1):
  Inv (zKo CX P w K mg base N qual scope f cd A outer s H E) [] (start N vs) H s1:=by
 have hpl:ps.length≤N.length:=by have:=congrArg List.length S.pre;rw [List.length_take] at this;omega
 obtain ⟨h1,tk,rfl,hk⟩:=x.done
 have noA:∀b:Addr,b∉(zKo CX P w K mg base N qual scope f cd A outer s H E).ex:=fun b z=>absurd (show b∈([]:List Addr) from z) (by simp)
 refine ⟨⟨e0.mod,S.kind,rfl,rfl,Nat.le_refl _,fun y z c h1 h2=>?_,fun y hy=>?_,fun y c _ h=>?_,fun _=>hd,Around.frames_deeper e0.frames,.inr ⟨rfl,rfl⟩,fun b z=>absurd z (noA b),e0.bs,e0.bsz,fun b _ _=>noA b,fun b z=>absurd z (noA b),e0.funs,e0.frf⟩,
  rfl,e0.bare,Un.kept hk,⟨_,x.toInCall.ns,fun i y v h1 h2 h3=>?_⟩,fun y c h=>⟨_,x.cell y c h⟩,e0.hok.fresh (Nat.le_refl _),fun y c h=>?_,fun p hp=>absurd (show p∈([]:List (Addr×Obj)) from hp) (by simp),e0.hok.kept hk,?_⟩
 ·exact name_of_addr x.apart (PySem.mem_of_lookup h1) (PySem.mem_of_lookup h2)
 ·have hy:scope.names.lookup y=some .cell∨scope.names.lookup y=some .free:=hy
  rcases hy with hy|hy
  ·exact z7s hy
  ·exact absurd rfl (S.nofree _ (PySem.mem_of_lookup hy))
 ·exact Nat.le_of_lt (x.above y c (PySem.mem_of_lookup h))
 ·have hi:i < vs.length:=by
   unfold start at h2
   by_cases hi:i < vs.length
   ·exact hi
   ·rw [List.getElem?_append_right (by simpa using hi)] at h2
    rw [List.getElem?_replicate] at h2
    split at h2<;>cases h2
  have ha:vs[i]?=some v:=by
   unfold start at h2
   rw [List.getElem?_append_left (by simpa using hi),List.getElem?_map] at h2
   cases e:vs[i]? with
   |none=>rw [e] at h2;cases h2
   |some a=>rw [e] at h2;cases h2;rfl
  obtain ⟨u,hu,rv⟩:=r.get ha
  have hp:ps[i]?=some y:=by
   rw [←S.pre,List.getElem?_take_of_lt (by omega)];exact h1
  have ndP:ps.Nodup:=by rw [←S.pre];exact S.nd.sublist (List.take_sublist _ _)
  refine ⟨u,rv,?_⟩
  rcases S.par y (List.mem_of_getElem? hp) with k|k
  ·exact .inl ⟨k,z4r ndP hp hu k⟩
  ·obtain ⟨c,e⟩:=z7s (n:=s.heap.objs.size + 1) k
   refine .inr ⟨.inl k,c,e,?_⟩
   have q:=x.cell y c e
   rw [zor ndP hp hu (by show scope.names.lookup y≠_;rw [k];decide)] at q
   exact q
 ·exact e0.hok.fresh (Nat.le_of_lt (x.above y c (PySem.mem_of_lookup h)))
 ·unfold start
  show _=N.length
  rw [List.length_append,List.length_map,List.length_replicate]
  omega
theorem z9z {CX:CXT} {P:Program} {w:World} {K:PySem.W.Frag} {mg:Str→Option Value} {base:Heap} {k:Nat} {f:Addr} {name qual:Str} {params:Arguments} {body:List Stmt} {scope:Scope} {dV kV doc pm cdv ct oc:Value} {an od:Option Addr}
  {osl:Array (Option Value)} {N ps:List Str} {sp:Sp} (lk:K.lookup f=some ⟨oc,od,.func (PySem.W.fnOf name qual params body scope dV kV doc pm an cdv ct),osl⟩) (hcd:PySem.W.codeIn K cdv qual=true) (S:zu N ps scope)
  (len:∀vs H Q E,sp vs H Q E→vs.length=ps.length)
  (hbody:∀(A:Around) (outer:List Env) (s:Shared) (H:Hp) (vs:List V) (Q:VK) (E:XK),zhc k (A.deeper (envOfC qual scope s.heap.objs.size f cdv))→sp vs H Q E→
   ∃t,PSs (zKo CX P w K mg base N qual scope f cdv A outer s H E) body t∧t { nx:=fun _ H'=>Q .non H',rt:=Q } (start N vs) H):
  zG P w K mg base CX (k + 1) f (PySem.W.fnOf name qual params body scope dV kV doc pm an cdv ct) ps sp:=by
 refine ⟨len,fun A outer s H args us vs Q E hr e0 hb r hsp=>?_⟩
 have hl:=len _ _ _ _ hsp
 have KX:K.In s.heap:=e0.mod.kin.keeps fun b o e=>(e0.bs b o e).1
 have lim:s.heap.NoLimit:=e0.mod.nolimit.keeps fun b o e=>(e0.bs b o e).1
 have hkind:∀y∈ps.zip us,scope.names.lookup y.1=some .local∨(scope.names.lookup y.1=some .cell∧((cellsFrom (s.heap.objs.size + 1) scope.names []).lookup y.1).isSome=true):=fun ⟨n,v⟩ hy=>by
  rcases S.par n (List.of_mem_zip hy).1 with q|q
  ·exact .inl q
  ·exact .inr ⟨q,PySem.W.cellsFrom_some _ _ _ (.inl q)⟩
 refine codeAny_call_function hr.depth (KX _ _ lk) rfl S.co S.gen rfl (PySem.W.codeRec_of KX hcd) (hb _ _ _ _ ?_)
 refine wpAny_newFunctionEnv_cells S.kind hkind fun env he s1 x=>?_
 subst he
 refine ⟨lim.keeps x.toInCall.keep,codeAny_func ?_⟩
 obtain ⟨t,ht,hq⟩:=hbody A outer s H vs Q E (hr.deeper _) hsp
 have I:Inv (zKo CX P w K mg base N qual scope f cdv A outer s H E) [] (start N vs) H s1:=z8x S hr.hd e0 hl r x
 refine wpAny_mono (ht [] s1 (start N vs) H _ I hq) (fun fl s' hs=>?_) fun e s' hs=>hs
 have fin:∀{σ':St} {H':Hp} {v:V} {u:Value},Inv (zKo CX P w K mg base N qual scope f cdv A outer s H E) [] σ' H' s'→RelV v u→Q v H'→CE outer P w H s Q u s':=
  fun {σ' H' v u} J rv q=>⟨v,H',J.os,J.bare,J.base,J.hok,rv,q⟩
 cases fl with
 |ret u=>
  obtain ⟨v,σ',H',J,rv,q⟩:=hs
  exact fin J rv q
 |next=>
  obtain ⟨σ',H',J,q⟩:=hs
  exact fin (v:=V.non) (u:=Value.none) J rfl q
 |brk=>
  obtain ⟨_,_,_,q⟩:=hs
  exact False.elim q
 |cont=>
  obtain ⟨_,_,_,q⟩:=hs
  exact False.elim q
end L2
namespace L2
open PySem PySem.Spec PyProof.Rows
section
variable {X:Cx} {x:Str} {p pos:Pos} {e:Expr} {es:List Expr} {t:TA} {id T:String} {r:List V→Hp→VK→Prop}
def tCB (r:List V→Hp→VK→Prop) (t:TA):TE:=fun σ H Q=>t σ H fun vs H1=>r vs H1 Q
theorem z5 (hc:zag X (.builtin id) r) (hg:Gl X x) (hm:X.mg x=none) (hv:bootBuiltins x=some (.builtin id)) (ha:PA X (e::es) t) (hn:x≠"__name__":=by decide) (hdb:(x==("__debug__":Str))=false:=by decide)
  (he:starEach (e::es) X.env=(false,eval e X.env)::starEach es X.env:=by rfl) (hpl:(backTo pos (starEach es X.env)).any (·.1)=false:=by rfl):PE X (.Call (.Name x p) (e::es) [] pos) (tCB r t):=by
 intro pins s σ H Q I h
 refine wpAny_Call_Name_kw (zRg I hg hm hv ?_ hn hdb)
 exact PyProof.Rows.callWith_builtin1 (thn (ha pos pins s σ H _ I h) fun us s1 ⟨vs,H1,I1,r1,q1⟩=>hc pins s1 σ H1 vs us Q I1 r1 q1) he hpl
theorem zDr (hc:zag X (.type T) r) (hg:Gl X x) (hm:X.mg x=none) (hv:bootBuiltins x=some (.type T)) (ha:PA X (e::es) t) (hn:x≠"__name__":=by decide) (hdb:(x==("__debug__":Str))=false:=by decide)
  (he:starEach (e::es) X.env=(false,eval e X.env)::starEach es X.env:=by rfl) (hpl:(backTo pos (starEach es X.env)).any (·.1)=false:=by rfl):PE X (.Call (.Name x p) (e::es) [] pos) (tCB r t):=by
 intro pins s σ H Q I h
 refine wpAny_Call_Name_kw (zRg I hg hm hv ?_ hn hdb)
 exact PyProof.Rows.callWith_type1 (thn (ha pos pins s σ H _ I h) fun us s1 ⟨vs,H1,I1,r1,q1⟩=>hc pins s1 σ H1 vs us Q I1 r1 q1) he hpl
end
end L2
namespace HT
open PySem PyProof.Rows
section
variable {prog:Program} {w:World} {A:Around} {E:Value→Shared→Prop} {s:Shared}
def sIx (n d:Nat):Option Int→Nat
 |none=>d
 |some v=>if v < 0 then (v + (n:Int)).toNat else min v.toNat n
theorem sIx_none (n d:Nat):sIx n d none=d:=rfl
theorem sIx_nat (n d k:Nat):sIx n d (some (k:Int))=min k n:=by
 show (if (k:Int) < 0 then ((k:Int) + (n:Int)).toNat else min (k:Int).toNat n)=min k n
 rw [if_neg (by omega),Int.toNat_natCast]
end
end HT
namespace L2
open PySem PySem.Spec PyProof.Rows
abbrev TO:=St→Hp→(Option Int→Hp→Prop)→Prop
def PO (X:Cx) (e:Option Expr) (t:TO):Prop:=
 ∀(pins:List (Addr×Obj)) (s:Shared) (σ:St) (H:Hp) (Q:Option Int→Hp→Prop),Inv X pins σ H s→t σ H Q→
  wpAny (model X.prog X.w) X.A (evalPart e X.env) (fun u s'=>∃o H',Inv X pins σ H' s'∧IsPart u o∧Q o H') X.xe s
def zvA:TO:=fun _ H Q=>Q none H
def zvC (t:TE):TO:=fun σ H Q=>t σ H fun x H1=>∃i,x=.int i∧Q (some i) H1
section
variable {X:Cx} {e:Expr} {te:TE} {lo hi:Option Expr} {tl th:TO} {pos p2:Pos}
theorem zpA:PO X none zvA:=by
 intro pins s σ H Q I h
 rw [evalPart_none]
 exact wpAny_pure ⟨none,H,I,.none,h⟩
theorem zMq (h:PE X e te):PO X (some e) (zvC te):=by
 intro pins s σ H Q I hw
 rw [evalPart_some]
 refine thn (h pins s σ H _ I hw) fun u s1 ⟨x,H1,I1,r1,q1⟩=>?_
 obtain ⟨i,rfl,q⟩:=q1
 obtain ⟨t,rfl⟩:=r1
 exact ⟨some i,H1,I1,.int i t,q⟩
def SlR (X:Cx) (r:V→Option Int→Option Int→Hp→VK→Prop):Prop:=
 ∀(pins:List (Addr×Obj)) (s:Shared) (σ:St) (H:Hp) (x:V) (v vl vu:Value) (lo hi:Option Int) (sl:Addr) (Q:VK),Inv X pins σ H s→RelV x v→s.heap.IsSliceOf sl vl vu .none→IsPart vl lo→IsPart vu hi→r x lo hi H Q→
  ∃T id,typeLookup (.type T) "__getitem__"=pure (some (.builtin id))∧s.TypeIs v T∧wpAny (model X.prog X.w) X.A (getItem v (.ref sl)) (EP X pins σ Q) X.xe s
def tSl (r:V→Option Int→Option Int→Hp→VK→Prop) (te:TE) (tl th:TO):TE:=fun σ H Q=>te σ H fun x H1=>tl σ H1 fun l H2=>th σ H2 fun u H3=>r x l u H3 Q
theorem zFt {r:V→Option Int→Option Int→Hp→VK→Prop} (hr:SlR X r) (he:PE X e te) (hl:PO X lo tl) (hu:PO X hi th):PE X (.Subscript e (.Slice lo hi none p2) pos) (tSl r te tl th):=by
 intro pins s σ H Q I h
 refine Subscript_ (thn (he pins s σ H _ I h) fun v s1 ⟨x,H1,I1,r1,q1⟩=>?_)
 refine wpAny_Slice (thn (hl pins s1 σ H1 _ I1 q1) fun vl s2 ⟨l,H2,I2,pl,q2⟩=>thn (hu pins s2 σ H2 _ I2 q2) fun vu s3 ⟨u,H3,I3,pu,q3⟩=>?_)
 rw [evalPart_none]
 refine wpAny_pure ?_
 have I4:Inv X pins σ H3 { s3 with heap:=s3.heap.push { cls:=.type "slice",data:=.fields #[vl,vu,.none] } }:=I3.kept (t':=s3.toks) fun b ob q=>Heap.get?_push_of_some _ q
 obtain ⟨T,id,hT,ht,hg⟩:=hr pins { s3 with heap:=s3.heap.push { cls:=.type "slice",data:=.fields #[vl,vu,.none] } } σ H3 x v vl vu l u s3.heap.objs.size Q I4 r1 (Heap.IsSliceOf.new ..) pl pu q3
 show wpAny (model X.prog X.w) X.A (subscriptTail e (.Slice lo hi none p2) v (.ref s3.heap.objs.size)) (EP X pins σ Q) X.xe { s3 with heap:=s3.heap.push { cls:=.type "slice",data:=.fields #[vl,vu,.none] } }
 exact tail_any (ops:=[.ref s3.heap.objs.size,v]) ht hT hg (by with_unfolding_all rfl)
def z2k (xs:List V) (lo hi:Option Int):List V:=(xs.drop (HT.sIx xs.length 0 lo)).take (HT.sIx xs.length xs.length hi - HT.sIx xs.length 0 lo)
theorem zQu (xs:List V) (lo hi:Option Int):(z2k xs lo hi).length≤xs.length:=by
 unfold z2k
 rw [List.length_take,List.length_drop]
 omega
end
end L2
namespace L2
open PySem PySem.Spec PyProof.Rows
def ixN (n:Nat) (i:Int):Option Nat:=if 0≤i then (if i < n then some i.toNat else none) else if -(n:Int)≤i then some (i + n).toNat else none
def atI {α:Type} (xs:List α) (i:Int):Option α:=(ixN xs.length i).bind fun j=>xs[j]?
theorem zAv {n:Nat} {i:Int} {j:Nat} (h:ixN n i=some j):seqIndex? i n=some j∧j < n∧-(n:Int)≤i∧i < n:=by
 unfold ixN at h
 by_cases h0:0≤i
 ·rw [if_pos h0] at h
  by_cases h1:i < n
  ·rw [if_pos h1] at h
   have e:i.toNat=j:=Option.some.inj h
   exact ⟨by rw [seqIndex_of h0 h1,e],by omega,by omega,h1⟩
  ·rw [if_neg h1] at h;cases h
 ·rw [if_neg h0] at h
  by_cases h1:-(n:Int)≤i
  ·rw [if_pos h1] at h
   have e:(i + n).toNat=j:=Option.some.inj h
   exact ⟨by rw [seqIndex_neg (by omega) h1,e],by omega,h1,by omega⟩
  ·rw [if_neg h1] at h;cases h
theorem zYv {α:Type} {xs:List α} {i:Int} {v:α} (h:atI xs i=some v):∃j,seqIndex? i xs.length=some j∧xs[j]?=some v∧j < xs.length∧-(xs.length:Int)≤i∧i < xs.length:=by
 unfold atI at h
 cases e:ixN xs.length i with
 |none=>rw [e] at h;cases h
 |some j=>
  rw [e] at h
  obtain ⟨h1,h2,h3,h4⟩:=zAv e
  exact ⟨j,h1,h,h2,h3,h4⟩
theorem zJA {α:Type} {xs:List α} {j:Nat} {v:α} (h:xs[j]?=some v):atI xs (j:Int)=some v:=by
 have hj:j < xs.length:=(List.getElem?_eq_some_iff.mp h).1
 have e:ixN xs.length (j:Int)=some j:=by
  unfold ixN
  rw [if_pos (by omega),if_pos (by omega)];simp
 unfold atI;rw [e];exact h
theorem z2s {α:Type} (xs:List α) (v:α):atI (xs++[v]) (-1)=some v:=by
 have hl:(xs++[v]).length=xs.length + 1:=by simp
 have e:ixN (xs++[v]).length (-1)=some xs.length:=by
  unfold ixN
  rw [hl,if_neg (by decide),if_pos (by omega)]
  congr 1
  omega
 unfold atI
 rw [e]
 show (xs++[v])[xs.length]?=some v
 simp
def zjA (b:Expr):Prop:=∀o i,subscripted b false o i=operate [o,i] (getItem o i)
def IxR (X:Cx) (r:R2):Prop:=
 ∀(value slice:Expr) (pins:List (Addr×Obj)) (s:Shared) (σ:St) (H:Hp) (x y:V) (v u:Value) (Q:VK),Inv X pins σ H s→RelV x v→RelV y u→r x y H Q→
  subscripted slice false v u=operate [v,u] (getItem v u)→wpAny (model X.prog X.w) X.A (subscriptTail value slice v u) (EP X pins σ Q) X.xe s
def MtR (X:Cx) (id:String) (r:V→List V→Hp→VK→Prop):Prop:=
 ∀(pins:List (Addr×Obj)) (s:Shared) (σ:St) (H:Hp) (x:V) (xs:List V) (v:Value) (us:List Value) (Q:VK),Inv X pins σ H s→RelV x v→Vals xs us→r x xs H Q→
  wpAny (model X.prog X.w) X.A (call (.builtin id) (v::us)) (EP X pins σ Q) X.xe s
section
variable {X:Cx} {a b:Expr} {ta tb:TE} {pos:Pos}
theorem zS {r:R2} (hr:IxR X r) (ha:PE X a ta) (hb:PE X b tb) (hs:zjA b):PE X (.Subscript a b pos) (tOp r ta tb):=by
 intro pins s σ H Q I h
 exact Subscript_ (zMz ha hb I h fun v u s2 x y H2 I2 rx ry q=>hr a b pins s2 σ H2 x y v u Q I2 rx ry q (hs _ _))
def zBB (K:PySem.W.Frag):R2:=fun x y H Q=>∃p xs i v,x=.ref p∧y=.int i∧SqL K H p xs∧atI xs i=some v∧Q v H
def znC (K:PySem.W.Frag):R2:=fun x y H Q=>∃p xs i v,x=.ref p∧y=.int i∧SqT K H p xs∧atI xs i=some v∧Q v H
theorem zH:IxR X (zBB X.K):=by
 intro value slice pins s σ H x y v u Q I rx ry h hs
 obtain ⟨p,xs,i,z,rfl,rfl,hq,he,q⟩:=h
 cases rx
 obtain ⟨t,rfl⟩:=ry
 obtain ⟨its,r,pl,hz⟩:=I.list hq
 obtain ⟨j,h1,h2,h3,h4,h5⟩:=zYv he
 obtain ⟨w,ew,rw'⟩:=r.get h2
 have hl:=r.length
 have hn:=zXh
 have fin:EP X pins σ Q w s:=⟨z,H,I,rw',q⟩
 by_cases h0:0≤i
 ·have hj:i.toNat=j:=by
   rw [seqIndex_of h0 h5] at h1
   exact Option.some.inj h1
  exact item_listR pl.isList h0 (by omega) (by rw [hj];simpa using ew) fin hs
 ·have hj:(i + (its.toArray.size:Int)).toNat=j:=by
   rw [seqIndex_neg (by omega) h4] at h1
   rw [List.size_toArray,←hl]
   exact Option.some.inj h1
  exact subscriptTail_builtinR (x:=w) pl.isList.typeIs slot_list_getitem.lookup
   (wpAny_getItem_list_neg (Q:=fun r s'=>r=w∧EP X pins σ Q r s') pl.isList (by omega) (by rw [List.size_toArray]<;>omega) (by omega) (by rw [hj];simpa using ew) ⟨rfl,fin⟩) hs
theorem z7j:IxR X (znC X.K):=by
 intro value slice pins s σ H x y v u Q I rx ry h hs
 obtain ⟨p,xs,i,z,rfl,rfl,hq,he,q⟩:=h
 cases rx
 obtain ⟨t,rfl⟩:=ry
 obtain ⟨its,r,pl,hz⟩:=I.tuple hq
 obtain ⟨j,h1,h2,h3,h4,h5⟩:=zYv he
 obtain ⟨w,ew,rw'⟩:=r.get h2
 have hl:=r.length
 have hn:=zXh
 have fin:EP X pins σ Q w s:=⟨z,H,I,rw',q⟩
 exact subscriptTail_builtinR (x:=w) pl.typeIs slot_tuple_getitem.lookup
  (getItem_tuple (j:=j) (Q:=fun r s'=>r=w∧EP X pins σ Q r s') pl (by omega) (by omega) (by rw [List.size_toArray,←hl];exact h1) (by simpa using ew) ⟨rfl,fin⟩) hs
theorem zSw (its:List Value) (n j:Nat) (u:Value):Obj.mapSeq (·.setIfInBounds j u) { cls:=.type "list",data:=.seq its.toArray n }={ cls:=.type "list",data:=.seq (its.set j u).toArray n }:=by
 simp [Obj.mapSeq]
theorem Inv.lst {pins:List (Addr×Obj)} {σ:St} {H:Hp} {s:Shared} {p:Addr} {xs:List V} (I:Inv X pins σ H s) (h:H p=some (.lst xs)):
  ∃(its:List Value) (n:Nat),Vals xs its∧s.heap.get? p=some { cls:=.type "list",data:=.seq its.toArray n }∧xs.length≤sizeLine:=by
 obtain ⟨z,its,n,r,e⟩:=I.hok p _ h
 exact ⟨its,n,r,e,z⟩
theorem Inv.lstUpd {pins:List (Addr×Obj)} {σ:St} {H:Hp} {s:Shared} {p:Addr} {xs ys:List V} {its its':List Value} {n n':Nat} {f:Obj→Obj} (I:Inv X pins σ H s) (h:H p=some (.lst xs))
  (ho:s.heap.get? p=some { cls:=.type "list",data:=.seq its.toArray n }) (hf:f { cls:=.type "list",data:=.seq its.toArray n }={ cls:=.type "list",data:=.seq its'.toArray n' }) (r:Vals ys its') (hz:ys.length≤sizeLine) (t:Nat):
  Inv X pins σ (upd H p (.lst ys)) { s with heap:=s.heap.update p f,toks:=t }:=by
 have e:(s.heap.update p f).get? p=some { cls:=.type "list",data:=.seq its'.toArray n' }:=by
  rw [Heap.get?_update_self f ho (by rw [hf]<;>rfl),hf]
 refine I.write (x:=p) (e:=p) (by rw [h];trivial) (.inl rfl) (fun b u hb q=>(Heap.get?_update_other _ _ (Ne.symm hb)).trans q) ⟨_,e⟩ ?_
 exact ⟨hz,its',n',r,e⟩
def zDC:V→V→V→Hp→(Hp→Prop)→Prop:=fun o i v H Q=>∃p xs k j,o=.ref p∧i=.int k∧H p=some (.lst xs)∧ixN xs.length k=some j∧Q (upd H p (.lst (xs.set j v)))
theorem set_list:zvz X zDC:=by
 intro pins s σ H o i v ov iv u Q I ro ri rv h
 obtain ⟨p,xs,k,j,rfl,rfl,hp,hj,q⟩:=h
 cases ro
 obtain ⟨t,rfl⟩:=ri
 obtain ⟨its,n,r,ho,hz⟩:=I.lst hp
 obtain ⟨h1,h2,h3,h4⟩:=zAv hj
 have hl:=r.length
 have hn:=zXh
 have I':Inv X pins σ (upd H p (.lst (xs.set j v))) { s with heap:=s.heap.update p (Obj.mapSeq (·.setIfInBounds j u)) }:=
  I.lstUpd hp ho (zSw its n j u) (r.set rv j) (by rw [List.length_set];exact hz) s.toks
 by_cases h0:0≤k
 ·have hk:k.toNat=j:=by
   rw [seqIndex_of h0 h4] at h1
   exact Option.some.inj h1
  exact PySem.W.ki_setAt ho h0 (by omega) (by rw [List.size_toArray,←hl];exact h4) (by rw [hk];exact ⟨_,I',q⟩)
 ·have hk:(k + (its.toArray.size:Int)).toNat=j:=by
   rw [seqIndex_neg (by omega) h3] at h1
   rw [List.size_toArray,←hl]
   exact Option.some.inj h1
  exact PySem.W.ki_setBack ho (by omega) (by rw [List.size_toArray,←hl];exact h3) (by omega) (by rw [hk];exact ⟨_,I',q⟩)
theorem zwt (lo hi:Option Int) (n:Nat):(sliceBounds lo hi none n).1=((HT.sIx n 0 lo:Nat):Int)∧(sliceBounds lo hi none n).2.1=((HT.sIx n n hi:Nat):Int)∧(sliceBounds lo hi none n).2.2=1:=by
 refine ⟨?_,?_,rfl⟩
 ·cases lo with
  |none=>simp [sliceBounds,HT.sIx]
  |some i=>
   simp only [sliceBounds,HT.sIx,Option.getD_none,show (1:Int) > 0 by decide,if_true]
   by_cases h:i < 0
   ·simp only [h,if_true]<;>omega
   ·simp only [h,if_false]<;>omega
 ·cases hi with
  |none=>simp [sliceBounds,HT.sIx]
  |some i=>
   simp only [sliceBounds,HT.sIx,Option.getD_none,show (1:Int) > 0 by decide,if_true]
   by_cases h:i < 0
   ·simp only [h,if_true]<;>omega
   ·simp only [h,if_false]<;>omega
theorem z6r (its:List Value) (lo hi:Option Int):slicePick its.toArray lo hi none=((its.drop (HT.sIx its.length 0 lo)).take (HT.sIx its.length its.length hi - HT.sIx its.length 0 lo)).toArray:=by
 obtain ⟨h1,h2,h3⟩:=zwt lo hi its.toArray.size
 unfold slicePick
 rw [h1,h2,h3]
 simp only [sliceRange_one,pick_run,List.size_toArray]<;>rfl
def z7C (K:PySem.W.Frag):V→Option Int→Option Int→Hp→VK→Prop:=fun x lo hi H Q=>∃a xs,x=.ref a∧SqL K H a xs∧∀p,H p=none→Q (.ref p) (upd H p (.lst (z2k xs lo hi)))
theorem ztv:SlR X (z7C X.K):=by
 intro pins s σ H x v vl vu lo hi sl Q I rx hs pl pu h
 obtain ⟨a,xs,rfl,hx,q⟩:=h
 cases rx
 obtain ⟨its,r,ht,hz⟩:=I.list hx
 have hlen:=r.length
 refine ⟨"list",_,slot_list_getitem.lookup,ht.isList.typeIs,?_⟩
 refine wpAny_getItem_list_slice ht.isList hs pl pu .none (by simp) ?_ (by rw [List.size_toArray]<;>omega)
 rw [z6r,←hlen]
 refine ⟨.ref s.heap.objs.size,_,I.laid (t':=s.toks) (o:=.lst (z2k xs lo hi)) (fun b ob q=>Heap.get?_push_of_some _ q) (Nat.le_refl _) ?_,rfl,q _ (I.hok.fresh (Nat.le_refl _))⟩
 exact ⟨Nat.le_trans (zQu xs lo hi) hz,_,0,(r.drop (HT.sIx xs.length 0 lo)).take (HT.sIx xs.length xs.length hi - HT.sIx xs.length 0 lo),Heap.get?_push_size _ rfl⟩
theorem zxb:zag X (.builtin "len") (fun xs H Q=>∃p ys,xs=[.ref p]∧(SqL X.K H p ys∨SqT X.K H p ys)∧Q (.int ys.length) H):=by
 intro pins s σ H xs us Q I r h
 obtain ⟨p,ys,rfl,hq,q⟩:=h
 obtain ⟨u,rfl,rx⟩:=vals1 r
 cases rx
 have hn:=zXh
 rcases hq with hq|hq
 ·obtain ⟨its,r',pl,hz⟩:=I.list hq
  have hlen:=r'.length
  exact Calls.call_len_list pl.isList (by simp only [List.size_toArray]<;>omega) ⟨.int ys.length,H,I.tok _,⟨s.toks + 1,by rw [List.size_toArray,hlen]⟩,q⟩
 ·obtain ⟨its,r',pl,hz⟩:=I.tuple hq
  have hlen:=r'.length
  exact len_tuple pl (by simp only [List.size_toArray]<;>omega) ⟨.int ys.length,H,I.tok _,⟨s.toks + 1,by rw [List.size_toArray,hlen]⟩,q⟩
theorem zLm:zag X (.type "list") (fun xs H Q=>∃p ys,xs=[.ref p]∧(SqL X.K H p ys∨SqT X.K H p ys)∧∀l,H l=none→Q (.ref l) (upd H l (.lst ys))):=by
 intro pins s σ H xs us Q I r h
 obtain ⟨p,ys,rfl,hq,q⟩:=h
 obtain ⟨u,rfl,rx⟩:=vals1 r
 cases rx
 have fin:∀(its:List Value),Vals ys its→ys.length≤sizeLine→∀(h':Heap) (c':Nat),(∀b o',s.heap.get? b=some o'→h'.get? b=some o')→
   h'.get? s.heap.objs.size=some { cls:=.type "list",dict:=none,data:=.seq its.toArray c',slots:=#[] }→EP X pins σ Q (.ref s.heap.objs.size) { s with heap:=h' }:=fun its r' hz h' c' kp e=>
  ⟨.ref s.heap.objs.size,_,I.laid (t':=s.toks) kp (Nat.le_refl _) (show zzb X.prog X.w _ h' _ (.lst ys) from ⟨hz,its,c',r',e⟩),rfl,q _ (I.hok.fresh (Nat.le_refl _))⟩
 rcases hq with hq|hq
 ·obtain ⟨its,r',pl,hz⟩:=I.list hq
  have hlen:=r'.length
  obtain ⟨o,ho,hc,n,hd⟩:=pl.isList
  exact call_list_seq p (.inl rfl) ho hc hd (fun h' c' kp e=>fin its r' hz h' c' kp e) (by simp only [List.size_toArray]<;>omega)
 ·obtain ⟨its,r',pl,hz⟩:=I.tuple hq
  have hlen:=r'.length
  obtain ⟨o,ho,hc,n,hd⟩:=pl
  exact call_list_seq p (.inr rfl) ho hc hd (fun h' c' kp e=>fin its r' hz h' c' kp e) (by simp only [List.size_toArray]<;>omega)
def tyV (K:PySem.W.Frag) (T:String) (x:V) (H:Hp):Prop:=match x with
 |.str _=>T="str"
 |.int _=>T="int"
 |.ref p=>(T="list"∧∃xs,SqL K H p xs)∨(T="tuple"∧∃o,K.lookup p=some o∧o.cls=.type "tuple"∧o.dict=none)∨
   (T="dict"∧((∃kvs,H p=some (.dK kvs))∨∃kvs,H p=some (.dT kvs)))∨(T="set"∧∃S n,H p=some (.set S n))
 |_=>False
theorem zpB {pins:List (Addr×Obj)} {σ:St} {H:Hp} {s:Shared} {T:String} {x:V} {v:Value} (I:Inv X pins σ H s) (r:RelV x v) (ty:tyV X.K T x H):
  s.TypeIs v T∧∀a,v=.ref a→∃ob,s.heap.get? a=some ob∧ob.dict=none:=by
 cases x with
 |str z=>
  obtain ⟨t,rfl⟩:=r
  cases (show T="str" from ty)
  exact ⟨typeIs_str s z t,fun _ e=>nomatch e⟩
 |int i=>
  obtain ⟨t,rfl⟩:=r
  cases (show T="int" from ty)
  exact ⟨typeIs_int s i t,fun _ e=>nomatch e⟩
 |ref p=>
  cases r
  rcases ty with ⟨rfl,xs,hq⟩|⟨rfl,o,hk,hc,hd⟩|⟨rfl,hk⟩|⟨rfl,S,n,hk⟩
  ·obtain ⟨its,_,pl,_⟩:=I.list hq
   refine ⟨pl.isList.typeIs,fun a e=>?_⟩
   cases e
   obtain ⟨o,n,e,c,hd,_⟩:=pl
   exact ⟨o,e,hd⟩
  ·refine ⟨⟨o,I.kIn p o hk,hc⟩,fun a e=>?_⟩
   cases e
   exact ⟨o,I.kIn _ o hk,hd⟩
  ·have z:∃o,s.heap.get? p=some o∧o.ExactDict:=by
    rcases hk with ⟨kvs,hk⟩|⟨kvs,hk⟩
    ·obtain ⟨_,_,_,_,o,_,_,e,ex,_⟩:=I.hok p _ hk
     exact ⟨o,e,ex⟩
    ·obtain ⟨_,_,_,_,o,_,_,e,ex,_⟩:=I.hok p _ hk
     exact ⟨o,e,ex⟩
   obtain ⟨o,e,ex⟩:=z
   refine ⟨⟨o,e,ex.1⟩,fun a e2=>?_⟩
   cases e2
   exact ⟨o,e,ex.2.1⟩
  ·obtain ⟨o,_,_,_,e,ex,_⟩:=I.hok p _ hk
   refine ⟨⟨o,e,ex.1⟩,fun a e2=>?_⟩
   cases e2
   exact ⟨o,e,ex.2.1⟩
 |_=>exact False.elim ty
def tBM (K:PySem.W.Frag) (T:String) (r:V→List V→Hp→VK→Prop) (to:TE) (t:TA):TE:=fun σ H Q=>to σ H fun x H1=>tyV K T x H1∧t σ H1 fun xs H2=>r x xs H2 Q
variable {o e:Expr} {es:List Expr} {to:TE} {t:TA} {name:Str} {apos cpos:Pos} {T id:String} {r:V→List V→Hp→VK→Prop}
theorem z6f (pa:PlainAttrs T) (slot:Slot T name id) (hty:typeOf (.builtin id)=pure (.type "method_descriptor")) (hm:MtR X id r) (ho:PE X o to) (ha:PA X (e::es) t)
  (hbase:attributeBase o name X.env (eval o X.env)=eval o X.env:=by rfl)
  (hfew:((backTo cpos (starEach (e::es) X.env)).all (fun x=>!x.1)&&(backToKw cpos (keywordEach [] X.env)).all (fun x=>x.1.isSome)
   &&decide ((e::es).length + ([]:List Keyword).length + (if ([]:List Keyword).isEmpty then 0 else 1) < 30))=true:=by rfl)
  (hline:(apos.endLine==cpos.line)=true:=by rfl) (hs:starEach (e::es) X.env=(false,eval e X.env)::starEach es X.env:=by rfl) (hplain:(backTo cpos (starEach es X.env)).any (·.1)=false:=by rfl):
  PE X (.Call (.Attribute o name apos) (e::es) [] cpos) (tBM X.K T r to t):=by
 intro pins s σ H Q I h
 refine wpAny_Call_method_late hbase hfew hline rfl (thn (ho pins s σ H _ I h) fun v s1 ⟨x,H1,I1,r1,ty,q1⟩=>?_)
 obtain ⟨h1,h2⟩:=zpB I1 r1 ty
 refine ⟨T,id,pa,slot,hty,h1,h2,?_⟩
 have hA:=ha cpos pins s1 σ H1 _ I1 q1
 rw [hs] at hA ⊢
 refine Calls.callWith_builtin (by show (false||(backTo cpos (starEach es X.env)).any (·.1))=false;rw [hplain]<;>rfl) (Calls.evalArgs_plain ?_)
 exact thn hA fun us s2 ⟨vs,H2,I2,r2,q2⟩=>hm pins s2 σ H2 x vs v us Q I2 r1 r2 q2
end
end L2
namespace L2
open PySem PySem.Spec PyProof.Rows
def MtM (X:Cx) (id:String) (r:V→List V→Hp→VK→Prop):Prop:=
 ∀(pins:List (Addr×Obj)) (s:Shared) (σ:St) (H:Hp) (x:V) (xs:List V) (v:Value) (us:List Value) (Q:VK),Inv X pins σ H s→RelV x v→Vals xs us→r x xs H Q→
  wpAny (model X.prog X.w) X.A (call (.builtin id) (v::us)) (EP X pins σ Q) X.xe s
theorem Vals.one:∀{x:V} {us:List Value},Vals [x] us→∃u,us=[u]∧RelV x u
 |_,_,.cons r .nil=>⟨_,rfl,r⟩
theorem Vals.rep {xs:List V} {us:List Value} (h:Vals xs us):∀k:Nat,Vals (List.replicate k xs).flatten (List.replicate k us).flatten
 |0=>.nil
 |k + 1=>by
  rw [List.replicate_succ,List.replicate_succ,List.flatten_cons,List.flatten_cons]
  exact Vals.append h (Vals.rep h k)
theorem foldl_rep (its:List Value):∀(k:Nat) (acc:List Value),
  List.foldl (fun x1 x2=>x1++x2) acc.toArray (List.replicate k its.toArray)=(acc++(List.replicate k its).flatten).toArray
 |0,acc=>by simp
 |k + 1,acc=>by
  have e:acc.toArray++its.toArray=(acc++its).toArray:=by simp
  have e2:(acc++its)++(List.replicate k its).flatten=acc++(List.replicate (k + 1) its).flatten:=by
   rw [List.replicate_succ,List.flatten_cons,List.append_assoc]
  rw [←e2,←foldl_rep its k (acc++its),←e,List.replicate_succ,List.foldl_cons]
section
variable {X:Cx} {pins:List (Addr×Obj)} {σ:St} {H:Hp} {s:Shared} {l b:Addr} {xs ys zs:List V}
theorem Inv.lset {its its':List Value} {n:Nat} {f:Array Value→Array Value} {t':Nat} (I:Inv X pins σ H s) (hH:H l=some (.lst xs))
  (e:s.heap.get? l=some { cls:=.type "list",data:=.seq its.toArray n }) (hf:f its.toArray=its'.toArray) (hv:Vals ys its') (hz:ys.length≤sizeLine):
  Inv X pins σ (upd H l (.lst ys)) { s with heap:=s.heap.update l (Obj.mapSeq f),toks:=t' }:=by
 have q:=PySem.IsL.update e f
 rw [hf] at q
 refine I.write (x:=l) (e:=l) (by rw [hH];exact trivial) (.inl rfl) (fun b' u hb hu=>(Heap.get?_update_other s.heap (Obj.mapSeq f) (Ne.symm hb)).trans hu) ⟨_,q⟩ ?_
 exact ⟨hz,its',_,hv,q⟩
theorem Inv.lnew {its:List Value} {t':Nat} (I:Inv X pins σ H s) (hv:Vals ys its) (hz:ys.length≤sizeLine):
  Inv X pins σ (upd H s.heap.objs.size (.lst ys)) { s with heap:=s.heap.push { cls:=.type "list",data:=.seq its.toArray },toks:=t' }:=
 I.laid (fun _ _ q=>Heap.get?_push_of_some _ q) (Nat.le_refl _) ⟨hz,its,0,hv,Heap.get?_push_size _ rfl⟩
theorem Inv.fresh (I:Inv X pins σ H s):H s.heap.objs.size=none:=I.hok.fresh (Nat.le_refl _)
theorem Inv.lstM (I:Inv X pins σ H s) (hH:H l=some (.lst xs)):xs.length≤sizeLine∧∃(its:List Value) (n:Nat),Vals xs its∧xs.length=its.length∧s.heap.get? l=some { cls:=.type "list",data:=.seq its.toArray n }:=by
 obtain ⟨z,its,n,r,e⟩:=I.hok l _ hH
 exact ⟨z,its,n,r,r.length,e⟩
theorem zuu {n:Nat} (h:n≤sizeLine):Builtin.List.listTooLong n=false:=by
 unfold Builtin.List.listTooLong
 exact decide_eq_false (by omega)
end
section
variable {X:Cx}
def zNA:V→List V→Hp→VK→Prop:=fun x vs H Q=>∃l xs y,x=.ref l∧vs=[y]∧H l=some (.lst xs)∧xs.length < sizeLine∧Q .non (upd H l (.lst (xs++[y])))
theorem zSf:MtM X "list.append" zNA:=by
 intro pins s σ H x vs v us Q I rx rv h
 obtain ⟨l,xs,y,rfl,rfl,hH,hz,q⟩:=h
 cases rx
 obtain ⟨u,rfl,ru⟩:=rv.one
 obtain ⟨z,its,n,r,hl,e⟩:=I.lstM hH
 refine call_meets F.slot_list_append ⟨_,e,rfl⟩ F.entry_list_append (F.args_list_append_2 _ _) (PySem.list_append l its.toArray n u (by rw [List.size_toArray];omega)) ⟨e,?_⟩
 refine ⟨.non,_,I.lset (its':=its++[u]) hH e (by simp) (r.append (.cons ru .nil)) ?_,rfl,q⟩
 rw [List.length_append,List.length_singleton]
 omega
def znA:V→List V→Hp→VK→Prop:=fun x vs H Q=>∃l b xs zs,x=.ref l∧vs=[.ref b]∧H l=some (.lst xs)∧H b=some (.lst zs)∧xs.length + zs.length≤sizeLine∧Q .non (upd H l (.lst (xs++zs)))
theorem zTg:MtM X "list.extend" znA:=by
 intro pins s σ H x vs v us Q I rx rv h
 obtain ⟨l,b,xs,zs,rfl,rfl,hH,hB,hz,q⟩:=h
 cases rx
 obtain ⟨u,rfl,ru⟩:=rv.one
 cases ru
 obtain ⟨z,its,n,r,hl,e⟩:=I.lstM hH
 obtain ⟨z2,its2,n2,r2,hl2,e2⟩:=I.lstM hB
 have hsz:its.toArray.size + its2.toArray.size≤sizeLine:=by rw [List.size_toArray,List.size_toArray];omega
 have hlong:¬(!its.toArray.isEmpty&&Builtin.List.listTooLong (its.toArray.size + its2.toArray.size))=true:=by
  rw [zuu hsz,Bool.and_false]
  exact Bool.false_ne_true
 refine call_meets F.slot_list_extend ⟨_,e,rfl⟩ F.entry_list_extend (F.args_list_extend_2 _ _)
  (AutoSeq1.list_extend_list_list_0 l its.toArray n b its2.toArray n2 hlong (by rw [List.size_toArray];omega) (by omega)) ⟨e,e2,?_⟩
 refine ⟨.non,_,I.lset (its':=its++its2) hH e (by simp) (r.append r2) ?_,rfl,q⟩
 rw [List.length_append]
 omega
def zmD:R2:=fun x y H Q=>∃l b xs zs,x=.ref l∧y=.ref b∧H l=some (.lst xs)∧H b=some (.lst zs)∧xs.length + zs.length≤sizeLine∧∀p,H p=none→Q (.ref p) (upd H p (.lst (xs++zs)))
theorem z2h:OpR X (binaryOp .Add) zmD:=by
 intro pins s σ H x y v u Q I rx ry h
 obtain ⟨l,b,xs,zs,rfl,rfl,hH,hB,hz,q⟩:=h
 cases rx
 cases ry
 obtain ⟨z,its,n,r,hl,e⟩:=I.lstM hH
 obtain ⟨z2,its2,n2,r2,hl2,e2⟩:=I.lstM hB
 refine PySem.P.add_list e e2 ?_ (by rw [List.size_toArray,List.size_toArray];omega)
 have ea:its.toArray++its2.toArray=(its++its2).toArray:=by simp
 rw [ea]
 exact ⟨.ref _,_,I.lnew (t':=s.toks) (r.append r2) (by rw [List.length_append];omega),rfl,q _ I.fresh⟩
def zjD:R2:=fun x y H Q=>∃l k xs,x=.ref l∧y=.int k∧H l=some (.lst xs)∧-(2 ^ 63)≤k∧k < 2 ^ 63∧xs.length * k.toNat≤sizeLine∧
 ∀p,H p=none→Q (.ref p) (upd H p (.lst (List.replicate k.toNat xs).flatten))
theorem len_rep {α:Type} (xs:List α) (k:Nat):(List.replicate k xs).flatten.length=k * xs.length:=by
 induction k with
 |zero=>simp
 |succ k ih=>rw [List.replicate_succ,List.flatten_cons,List.length_append,ih,Nat.succ_mul,Nat.add_comm]
theorem zWs:OpR X (binaryOp .Mult) zjD:=by
 intro pins s σ H x y v u Q I rx ry h
 obtain ⟨l,k,xs,rfl,rfl,hH,h1,h2,hz,q⟩:=h
 cases rx
 obtain ⟨t,rfl⟩:=ry
 obtain ⟨z,its,n,r,hl,e⟩:=I.lstM hH
 have hlen:its.toArray.size * k.toNat≤sizeLine:=by rw [List.size_toArray,←hl];exact hz
 have hcap:¬its.toArray.size * k.toNat > (2 ^ 63 - 1) / 8:=by
  have:(sizeLine:Nat)≤(2 ^ 63 - 1) / 8:=by decide
  omega
 have hfit:¬(!Builtin.List.listFitsIndex k)=true:=by
  rw [fitsIndex_both h1 h2]
  exact Bool.false_ne_true
 have hlong:¬Builtin.List.listTooLong (its.toArray.size * k.toNat)=true:=by
  rw [zuu hlen]
  exact Bool.false_ne_true
 have hnew:List.foldl (fun x1 x2=>x1++x2) #[] (List.replicate (if its.toArray.isEmpty=true then 0 else k.toNat) its.toArray)=(List.replicate k.toNat its).flatten.toArray:=by
  have f0:∀m:Nat,List.foldl (fun x1 x2=>x1++x2) #[] (List.replicate m its.toArray)=(List.replicate m its).flatten.toArray:=fun m=>by
   have:=foldl_rep its m []
   rw [List.nil_append] at this
   exact this
  rw [f0]
  cases its with
  |nil=>simp
  |cons a r'=>rw [if_neg (by simp)]
 refine wpAny_binaryOp_repeat_ref (T:="list") (U:="int") (by decide) ⟨_,e,rfl⟩ (fun s'=>typeIs_int s' k t) noFill_list_mul F.fills_int_mul F.slot_int_rmul repeat_list F.slot_int_index.lookup
  (call_meets F.slot_int_rmul (typeIs_int s k t) F.entry_int_rmul (F.args_int_rmul_2 _ _) (int___rmul___int_list k t l its.toArray n)
   ⟨e,rfl,⟨_,e,rfl⟩,call_meets F.slot_list_mul ⟨_,e,rfl⟩ F.entry_list_mul (F.args_list_mul_2 _ _) (AutoListH.list___mul___list_int_3 l its.toArray n k t hfit hcap hlong) ⟨e,?_⟩⟩)
 rw [hnew]
 exact ⟨.ref _,_,I.lnew (t':=s.toks) (r.rep k.toNat) (by rw [len_rep,Nat.mul_comm];exact hz),rfl,q _ I.fresh⟩
end
end L2
namespace L2
open PySem PySem.Spec PyProof.Rows
theorem Vals.ints:∀{ns:List Int} {us:List Value},Vals (ns.map V.int) us→IntsAre us ns
 |[],us,h=>by
  rw [List.map_nil] at h
  cases h
  exact IntsAre.nil
 |n::ns,us,h=>by
  rw [List.map_cons] at h
  cases h with
  |cons r t=>
   obtain ⟨k,rfl⟩:=r
   exact IntsAre.cons n k (Vals.ints t)
theorem zam:∀{us:List Value} {ns:List Int},IntsAre us ns→Vals (ns.map V.int) us
 |_,_,.nil=>by rw [List.map_nil];exact Paired.nil
 |_,_,.cons n t h=>by rw [List.map_cons];exact Paired.cons (show RelV (V.int n) (Value.int n t) from ⟨t,rfl⟩) (zam h)
theorem Vals.bls:∀{bs:List Bool} {us:List Value},Vals (bs.map V.bl) us→us=bs.map Value.bool
 |[],us,h=>by
  rw [List.map_nil] at h
  cases h
  rfl
 |b::bs,us,h=>by
  rw [List.map_cons] at h
  cases h with
  |cons r t=>
   cases r
   rw [Vals.bls t,List.map_cons]
theorem Vals.ref1 {a:Addr} {us:List Value} (r:Vals [V.ref a] us):us=[Value.ref a]:=by
 cases r with
 |cons r t=>
  cases t
  cases r
  rfl
section
variable {prog:Program} {w:World} {A:Around} {E:Value→Shared→Prop} {s:Shared} {l:Addr} {its:List Value} {ns:List Int} {Q:Value→Shared→Prop}
theorem zkA (hh:A.handled=none) (hl:s.heap.IsList l its.toArray) (hi:IntsAre its ns)
  (h:∀h' tk t',(∀b o,s.heap.get? b=some o→h'.get? b=some o)→Q (.int ns.sum t') { s with heap:=h',toks:=tk }):wpAny (model prog w) A (call (.builtin "sum") [.ref l]) Q E s:=by
 obtain ⟨xs,e⟩:=hi.allInts.items
 have hn:numsOf (intItems xs).toList=ns:=by rw [←e];exact hi.numsOf
 rw [nums_intItems] at hn
 rw [e] at hl
 refine PySem.sum_intListG hh hl fun h' tk t' hk=>?_
 have:=h h' tk t' hk
 rw [preSum_eq,List.take_of_length_le (by simp),hn];exact this
end
section
variable {X:Cx}
def ziD (K:PySem.W.Frag):List V→Hp→VK→Prop:=fun vs H Q=>∃(a:Addr) (ns:List Int),vs=[V.ref a]∧SqL K H a (ns.map V.int)∧Q (.int ns.sum) H
theorem zbm (hc:X.calm=true):zag X (.builtin "sum") (ziD X.K):=by
 intro pins s σ H vs us Q I r h
 obtain ⟨a,ns,rfl,hs,q⟩:=h
 obtain ⟨its,rv,hl,_⟩:=I.list hs
 rw [Vals.ref1 r]
 exact zkA (I.ok.hd hc) hl.isList rv.ints fun h' tk t' hk=>⟨.int _,H,I.kept hk,⟨_,rfl⟩,q⟩
end
theorem zQz {prog:Program} {w:World} {A:Around} {E:Value→Shared→Prop} {s:Shared} {l:Addr} {items:Array Value} {Q:Value→Shared→Prop} (hl:s.heap.IsList l items)
  (h:∀s₂:Shared,s₂={ s with heap:=s.heap.push { cls:=.type "list_iterator",data:=.fields #[.ref l,.int 0 0] } }→
   (s₂.heap.IsListIter s.heap.objs.size l 0∧s₂.heap.IsList l items)→l≠s.heap.objs.size→Q (.ref s.heap.objs.size) s₂):wpAny (model prog w) A (pyIter (.ref l)) Q E s:=by
 have hlt:l < s.heap.objs.size:=by obtain ⟨_,e,_⟩:=hl;exact Heap.lt_size e
 exact wpAny_pyIter_list hl (h _ rfl ⟨⟨_,Heap.get?_push_size _ rfl,rfl,rfl⟩,hl.push _⟩ (Nat.ne_of_lt hlt))
theorem z4u {prog:Program} {w:World} {A:Around} {bs:List Bool} {its:List Value} (e:its=bs.map Value.bool):
  TruthOf prog w A (fun i v=>its.toArray[i]?=some v) (fun i=>bs.getD i false):=fun i v s Q E hv hq=>by
 have hv':its[i]?=some v:=by simpa using hv
 rw [e,List.getElem?_map] at hv'
 obtain ⟨b,hb,rfl⟩:=Option.map_eq_some_iff.mp hv'
 have hg:bs.getD i false=b:=by rw [List.getD_eq_getElem?_getD,hb]<;>rfl
 have hq':Q (bs.getD i false) s:=hq
 rw [hg] at hq'
 exact wpAny_truthy_bool hq'
theorem any_range:∀bs:List Bool,(List.range bs.length).any (fun i=>bs.getD i false)=bs.any id
 |[]=>rfl
 |b::bs=>by
  rw [List.length_cons,List.range_succ_eq_map,List.any_cons,List.any_map,List.any_cons,←any_range bs]
  all_goals rfl
theorem all_range:∀bs:List Bool,(List.range bs.length).all (fun i=>bs.getD i false)=bs.all id
 |[]=>rfl
 |b::bs=>by
  rw [List.length_cons,List.range_succ_eq_map,List.all_cons,List.all_map,List.all_cons,←all_range bs]
  all_goals rfl
section
variable {X:Cx}
def zdD (K:PySem.W.Frag):List V→Hp→VK→Prop:=fun vs H Q=>∃(a:Addr) (bs:List Bool),vs=[V.ref a]∧SqL K H a (bs.map V.bl)∧Q (.bl (bs.all id)) H
theorem zIB (hc:X.calm=true):zag X (.builtin "all") (zdD X.K):=by
 intro pins s σ H vs us Q I r h
 obtain ⟨a,bs,rfl,hs,q⟩:=h
 obtain ⟨its,rv,hl,_⟩:=I.list hs
 rw [Vals.ref1 r]
 have hb:=rv.bls
 refine call_all_walk (zQz hl.isList fun s₂ e2 st hne=>?_)
 subst e2
 refine ⟨_,_,_,_,_,_,_,rfl,Walks.list (A:=X.A.in1) (I.ok.hd hc) _ a hne its.toArray,st,z4u hb,fun h' tk hk=>?_⟩
 refine ⟨.bl _,H,I.kept fun b o eo=>hk b o (fun hmem=>?_) (Heap.get?_push_of_some _ eo),?_,q⟩
 ·rcases List.mem_cons.mp hmem with e1|hmem
  ·exact absurd (e1 ▸ Heap.lt_size eo) (Nat.lt_irrefl _)
  ·cases hmem
 ·show Value.bool _=Value.bool _
  rw [←all_range,hb,List.size_toArray,List.length_map]
end
mutual
inductive Dp (K:PySem.W.Frag) (H:Hp):V→PyData→Prop
 |non:Dp K H .non .none
 |bl (b:Bool):Dp K H (.bl b) (.bool b)
 |int (i:Int):Dp K H (.int i) (.int i)
 |str (x:Str):Dp K H (.str x) (.str x)
 |lst {a:Addr} {xs:List V} {ds:List PyData}:SqL K H a xs→z9m K H xs ds→Dp K H (.ref a) (.list ds)
 |tup {a:Addr} {xs:List V} {ds:List PyData}:SqT K H a xs→z9m K H xs ds→Dp K H (.ref a) (.tuple ds)
inductive z9m (K:PySem.W.Frag) (H:Hp):List V→List PyData→Prop
 |nil:z9m K H [] []
 |cons {v:V} {vs:List V} {d:PyData} {ds:List PyData}:Dp K H v d→z9m K H vs ds→z9m K H (v::vs) (d::ds)
end
section
variable {X:Cx} {pins:List (Addr×Obj)} {σ:St} {H:Hp} {s:Shared}
mutual
theorem Dp.reads (I:Inv X pins σ H s):∀(d:PyData) (v:V) (u:Value),Dp X.K H v d→RelV v u→∃as,Reads s.heap u d as
 |.none,_,_,h,r=>by
  cases h
  cases r
  exact ⟨_,Reads.none⟩
 |.bool b,_,_,h,r=>by
  cases h
  cases r
  exact ⟨_,Reads.bool b⟩
 |.int i,_,_,h,r=>by
  cases h
  obtain ⟨t,rfl⟩:=r
  exact ⟨_,Reads.int i t⟩
 |.str x,_,_,h,r=>by
  cases h
  obtain ⟨t,rfl⟩:=r
  exact ⟨_,Reads.str x t⟩
 |.list ds,_,_,h,r=>by
  cases h with
  |lst hs ha=>
   cases r
   obtain ⟨its,rv,⟨o,n,ho,hc,_,hd⟩,_⟩:=I.list hs
   obtain ⟨as,hr⟩:=Dp.readsAll I ds _ its ha rv
   exact ⟨_,Reads.list ho hc hd hr⟩
 |.tuple ds,_,_,h,r=>by
  cases h with
  |tup hs ha=>
   cases r
   obtain ⟨its,rv,⟨o,ho,hc,n,hd⟩,_⟩:=I.tuple hs
   obtain ⟨as,hr⟩:=Dp.readsAll I ds _ its ha rv
   exact ⟨_,Reads.tuple ho hc hd hr⟩
 |.dict _,_,_,h,_=>by cases h
theorem Dp.readsAll (I:Inv X pins σ H s):∀(ds:List PyData) (vs:List V) (us:List Value),z9m X.K H vs ds→Vals vs us→∃as,ReadsAll s.heap us ds as
 |[],_,_,h,r=>by
  cases h
  cases r
  exact ⟨_,ReadsAll.nil⟩
 |d::ds,_,_,h,r=>by
  cases h with
  |cons h1 h2=>
   cases r with
   |cons r1 r2=>
    obtain ⟨as,q1⟩:=Dp.reads I d _ _ h1 r1
    obtain ⟨bs,q2⟩:=Dp.readsAll I ds _ _ h2 r2
    exact ⟨_,ReadsAll.cons q1 q2⟩
end
end
section
variable {X:Cx}
def zhz (K:PySem.W.Frag):R2:=fun x y H Q=>∃d e,Dp K H x d∧Dp K H y e∧SeqAt.shaped d=true∧SeqAt.shaped e=true∧Q (.bl (PyData.eqv d e)) H
theorem zku (hu:X.A.units + 64 < cLine):OpR X (compareOp .Eq) (zhz X.K):=by
 intro pins s σ H x y v u Q I rx ry h
 obtain ⟨d,e,hd,he,sd,se,q⟩:=h
 obtain ⟨as,r1⟩:=Dp.reads I d x v hd rx
 obtain ⟨bs,r2⟩:=Dp.reads I e y u he ry
 exact SeqAt.compareEq_shaped r1 r2 sd se hu ⟨.bl _,H,I,rfl,q⟩
end
end L2
namespace L2
open PySem PySem.Spec PyProof.Rows
abbrev zrx (h:Heap) (c:Addr) (v:Option Value):Prop:=h.IsCell c v
def z9C (scope sc:Scope):Scope:=
 { scope with names:=scope.names.map fun (n,k)=>if (k==.free&&sc.kind==.function&&sc.names.lookup n==some .cell) then (n,.cell) else (n,k) }
def zRb (cells:List (Str×Addr)):List (Str×NameKind)→List (Str×Addr)→List (Str×Addr)
 |[],acc=>acc
 |(n,k)::r,acc=>if k==.free then zRb cells r ((n,(cells.lookup n).getD 0)::acc) else zRb cells r acc
theorem zdm (env:Env) (f:Str×NameKind→List (Str×Addr)→Sem (ForInStep (List (Str×Addr))))
  (hf:∀n k c,f (n,k) c=if k==.free then (do let a ←cellOf env n;pure (.yield ((n,a)::c))) else pure (.yield c)):
  ∀(names:List (Str×NameKind)) (acc:List (Str×Addr)),(∀y∈names,y.2=.free→∃c,env.cells.lookup y.1=some c)→forIn names acc f=pure (zRb env.cells names acc)
 |[],acc,_=>by rw [List.forIn_nil];rfl
 |(n,k)::r,acc,h=>by
  rw [List.forIn_cons,hf]
  have ih:=fun acc=>zdm env f hf r acc fun y hy=>h y (List.mem_cons_of_mem _ hy)
  unfold zRb
  by_cases hk:(k==NameKind.free)=true
  ·rw [if_pos hk,if_pos hk]
   obtain ⟨c,hc⟩:=h (n,k) List.mem_cons_self (by simpa using hk)
   have e:cellOf env n=pure c:=by unfold cellOf;rw [hc]
   rw [e]
   have e2:(env.cells.lookup n).getD 0=c:=by rw [hc];rfl
   rw [e2]
   exact ih _
  ·rw [if_neg hk,if_neg hk]
   exact ih _
theorem z8w {scope:Scope} {env:Env} (h:∀y∈scope.names,y.2=.free→∃c,env.cells.lookup y.1=some c):closureFor scope env=pure (zRb env.cells scope.names []):=by
 simp only [closureFor]
 rw [zdm env _ (fun n k c=>rfl) scope.names [] h]
 rfl
theorem mem_lookup {α:Type}:∀{l:List (Str×α)} {n:Str} {c:α},(n,c)∈l→∃c',l.lookup n=some c'
 |(k,v)::r,n,c,h=>by
  rw [List.lookup_cons]
  cases hb:n==k with
  |true=>exact ⟨_,rfl⟩
  |false=>
   rcases List.mem_cons.mp h with e|h
   ·cases e;simp at hb
   ·exact mem_lookup h
theorem zJg {cells:List (Str×Addr)}:∀{names:List (Str×NameKind)} {acc:List (Str×Addr)} {n:Str} {c:Addr},(n,c)∈zRb cells names acc→(n,c)∈acc∨((n,.free)∈names∧c=(cells.lookup n).getD 0)
 |[],_,_,_,h=>.inl h
 |(m,k)::r,acc,n,c,h=>by
  unfold zRb at h
  split at h
  ·rename_i hk
   have hk:k=.free:=by simpa using hk
   rcases zJg h with h|⟨h1,h2⟩
   ·rcases List.mem_cons.mp h with e|h
    ·cases e;exact .inr ⟨hk ▸ List.mem_cons_self,rfl⟩
    ·exact .inl h
   ·exact .inr ⟨List.mem_cons_of_mem _ h1,h2⟩
  ·rcases zJg h with h|⟨h1,h2⟩
   ·exact .inl h
   ·exact .inr ⟨List.mem_cons_of_mem _ h1,h2⟩
theorem zwj {cells:List (Str×Addr)}:∀{names:List (Str×NameKind)} {acc:List (Str×Addr)} {p:Str×Addr},p∈acc→p∈zRb cells names acc
 |[],_,_,h=>h
 |(m,k)::r,acc,p,h=>by
  unfold zRb
  split
  ·exact zwj (List.mem_cons_of_mem _ h)
  ·exact zwj h
theorem zAj {cells:List (Str×Addr)}:∀{names:List (Str×NameKind)} {acc:List (Str×Addr)} {n:Str},(n,.free)∈names→(n,(cells.lookup n).getD 0)∈zRb cells names acc
 |(m,k)::r,acc,n,h=>by
  unfold zRb
  rcases List.mem_cons.mp h with e|h
  ·cases e
   exact zwj List.mem_cons_self
  ·split
   ·exact zAj h
   ·exact zAj h
theorem z1g:∀{names:List (Str×NameKind)} {h:Heap} {acc:List (Str×Addr)} {x:Str} {c:Addr},(x,c)∈cellsFrom h.objs.size names acc→
  (x,c)∈acc∨((x,.cell)∈names∧h.objs.size≤c∧zrx (pushCells h names) c none)
 |[],_,_,_,_,h=>.inl h
 |(n,k)::r,h,acc,x,c,hm=>by
  unfold cellsFrom at hm
  unfold pushCells
  split at hm
  ·rename_i hk
   rw [if_pos hk]
   have hk:k=.cell:=by simpa using hk
   rw [←Heap.size_push h { cls:=.type "cell",data:=.cell none }] at hm
   rcases z1g hm with hm|⟨h1,h2,h3⟩
   ·rcases List.mem_cons.mp hm with e|hm
    ·cases e
     exact .inr ⟨hk ▸ List.mem_cons_self,Nat.le_refl _,_,pushCells_keeps r _ _ _ (Heap.get?_push_size _ rfl),rfl⟩
    ·exact .inl hm
   ·rw [Heap.size_push] at h2
    exact .inr ⟨List.mem_cons_of_mem _ h1,Nat.le_of_succ_le h2,h3⟩
  ·rename_i hk
   rw [if_neg hk]
   rcases z1g hm with hm|⟨h1,h2,h3⟩
   ·exact .inl hm
   ·exact .inr ⟨List.mem_cons_of_mem _ h1,h2,h3⟩
theorem z5i:∀{names:List (Str×NameKind)} {n:Nat} {acc:List (Str×Addr)} {p:Str×Addr},p∈acc→p∈cellsFrom n names acc
 |[],_,_,_,h=>h
 |(m,k)::r,n,acc,p,h=>by
  unfold cellsFrom
  split
  ·exact z5i (List.mem_cons_of_mem _ h)
  ·exact z5i h
theorem zym:∀{names:List (Str×NameKind)} {n:Nat} {acc:List (Str×Addr)} {x:Str},(x,.cell)∈names→∃c,(x,c)∈cellsFrom n names acc
 |(m,k)::r,n,acc,x,h=>by
  unfold cellsFrom
  rcases List.mem_cons.mp h with e|h
  ·cases e
   exact ⟨n,z5i List.mem_cons_self⟩
  ·split
   ·exact zym h
   ·exact zym h
theorem ztm:∀{names:List (Str×NameKind)} {h:Heap} {acc:List (Str×Addr)} {x y:Str} {c:Addr},(∀p∈acc,p.2 < h.objs.size)→(∀x y c,(x,c)∈acc→(y,c)∈acc→x=y)→
  (x,c)∈cellsFrom h.objs.size names acc→(y,c)∈cellsFrom h.objs.size names acc→x=y
 |[],_,_,_,_,_,_,hi,h1,h2=>hi _ _ _ h1 h2
 |(n,k)::r,h,acc,x,y,c,hl,hi,h1,h2=>by
  unfold cellsFrom at h1 h2
  split at h1
  ·rename_i hk
   rw [if_pos hk] at h2
   rw [←Heap.size_push h { cls:=.type "cell",data:=.cell none }] at h1 h2
   refine ztm (h:=h.push _) (fun p hp=>?_) (fun x y c a b=>?_) h1 h2
   ·rw [Heap.size_push]
    rcases List.mem_cons.mp hp with rfl|hp
    ·exact Nat.lt_succ_self _
    ·exact Nat.lt_succ_of_lt (hl p hp)
   ·rcases List.mem_cons.mp a with e|a<;>rcases List.mem_cons.mp b with e'|b
    ·cases e;cases e';rfl
    ·cases e;exact absurd (hl _ b) (Nat.lt_irrefl _)
    ·cases e';exact absurd (hl _ a) (Nat.lt_irrefl _)
    ·exact hi _ _ _ a b
  ·rename_i hk
   rw [if_neg hk] at h2
   exact ztm hl hi h1 h2
theorem zCu {M:Model} {A:Around} {E:Value→Shared→Prop} {s:Shared} {scope:Scope} {globals:Addr} {closure:List (Str×Addr)} {qual:Str} {func:Option Addr} {code:Value} {around:Env} {builtins:Addr} {Q:Env→Shared→Prop}
  (h:Q (newEnv scope s.heap.objs.size globals (cellsFrom (s.heap.objs.size + 1) scope.names closure) qual func code (some around) builtins)
   { s with heap:=pushCells (s.heap.push { cls:=.type "dict",data:=.dict #[] }) scope.names }):
  wpAny M A (newFunctionEnv scope globals closure [] qual func code (some around) builtins) Q E s:=by
 simp only [newFunctionEnv,Option.isSome_some,if_true]
 refine wpAny_bind (wpAny_alloc ?_)
 refine wpAny_bind (wpAny_layCells _ (fun n k c=>rfl) scope.names closure _ _ ?_)
 rw [show ({ s with heap:=s.heap.push { cls:=.type "dict",data:=.dict #[] } }:Shared).heap.objs.size=s.heap.objs.size + 1 from Heap.size_push ..]
 rw [List.forIn_nil]
 exact wpAny_bind (wpAny_pure (wpAny_pure h))
theorem zcj {sc:Scope}:∀{names:List (Str×NameKind)} {x:Str} {k:NameKind},
  (names.map fun (n,k)=>if (k==NameKind.free&&sc.kind==.function&&sc.names.lookup n==some .cell) then (n,NameKind.cell) else (n,k)).lookup x=some k→
  ∃k',names.lookup x=some k'∧(k=k'∨(k'=.free∧k=.cell))
 |[],_,_,h=>by simp at h
 |(n,k₀)::r,x,k,h=>by
  have ih:=@zcj sc r x k
  have h':List.lookup x ((if (k₀==NameKind.free&&sc.kind==.function&&sc.names.lookup n==some .cell)=true then (n,NameKind.cell) else (n,k₀))::(r.map _))=some k:=h
  cases hx:x==n with
  |true=>
   simp only [List.lookup_cons,hx]
   by_cases hc:(k₀==NameKind.free&&sc.kind==.function&&sc.names.lookup n==some .cell)=true
   ·rw [if_pos hc] at h'
    simp only [List.lookup_cons,hx] at h'
    cases h'
    simp only [Bool.and_eq_true,beq_iff_eq] at hc
    exact ⟨k₀,rfl,.inr ⟨hc.1.1,rfl⟩⟩
   ·rw [if_neg hc] at h'
    simp only [List.lookup_cons,hx] at h'
    cases h'
    exact ⟨_,rfl,.inl rfl⟩
  |false=>
   simp only [List.lookup_cons,hx]
   by_cases hc:(k₀==NameKind.free&&sc.kind==.function&&sc.names.lookup n==some .cell)=true
   ·rw [if_pos hc] at h'
    simp only [List.lookup_cons,hx] at h'
    exact ih h'
   ·rw [if_neg hc] at h'
    simp only [List.lookup_cons,hx] at h'
    exact ih h'
structure zUp (N:List Str) (sc scope:Scope) (own:List (Str×Nat)):Prop where
 kind:scope.kind=.function
 uniq:∀y∈scope.names,scope.names.lookup y.1=some y.2
 ix:∀p∈own,N[p.2]?=some p.1
 free:∀y∈scope.names,y.2=.free→sc.names.lookup y.1=some .cell∨sc.names.lookup y.1=some .free
 own:∀y∈scope.names,y.2=.local∨y.2=.cell→y.1∈own.map (·.1)∨y.1∉N
def wipe (σ:St):List Nat→St
 |[]=>σ
 |v::vs=>(wipe σ vs).set v none
theorem zej (σ:St):∀vs:List Nat,(wipe σ vs).length=σ.length
 |[]=>rfl
 |v::vs=>by unfold wipe;rw [List.length_set,zej σ vs]
theorem zIm {σ:St} {i:Nat} {x:V}:∀{vs:List Nat},(wipe σ vs)[i]?=some (some x)→σ[i]?=some (some x)∧i∉vs
 |[],h=>⟨h,by simp⟩
 |v::vs,h=>by
  unfold wipe at h
  by_cases hi:v=i
  ·subst hi
   by_cases hv:v < (wipe σ vs).length
   ·rw [List.getElem?_set_self hv] at h;cases h
   ·rw [List.getElem?_eq_none (by simpa using hv)] at h;cases h
  ·rw [List.getElem?_set_ne hi] at h
   obtain ⟨h1,h2⟩:=zIm h
   exact ⟨h1,by simp only [List.mem_cons,not_or];exact ⟨fun e=>hi e.symm,h2⟩⟩
abbrev Cx.blk (X:Cx) (s:Shared) (H:Hp) (scope:Scope) (cenv:Env) (fp:List Addr):Cx:={ X with s_0:=s,H_0:=H,env:=cenv,outer:=X.stack,ex:=fp,fn:=fun x=>scope.names.lookup x==some .cell,pn:=[],xe:=fun _ _=>False }
section
variable {X:Cx} {pins:List (Addr×Obj)} {σ:St} {H:Hp} {s:Shared}
theorem z9u {scope:Scope} {own:List (Str×Nat)} {fp:List Addr} (I:Inv X pins σ H s) (ok:zUp X.N X.env.scope scope own) (hN:X.N.Nodup) (hfp:∀b∈fp,zah X pins H b∧b < s.heap.objs.size):
  Inv (X.blk s H scope (compEnvC scope (cellsFrom (s.heap.objs.size + 1) scope.names (zRb X.env.cells scope.names [])) s.heap.objs.size X.env) fp) [] (wipe σ (own.map (·.2))) H { s with heap:=pushCells (s.heap.push { cls:=.type "dict",data:=.dict #[] }) scope.names }:=by
 have hfree:∀y∈scope.names,y.2=.free→∃c,X.env.cells.lookup y.1=some c:=fun y hy e=>by
  rcases ok.free y hy e with k|k
  ·exact I.ok.has _ (.inl k)
  ·exact I.ok.has _ (.inr k)
 generalize hcenv:compEnvC scope (cellsFrom (s.heap.objs.size + 1) scope.names (zRb X.env.cells scope.names [])) s.heap.objs.size X.env=cenv
 have kp:∀b o,s.heap.get? b=some o→(pushCells (s.heap.push { cls:=.type "dict",data:=.dict #[] }) scope.names).get? b=some o:=fun b o e=>pushCells_keeps _ _ _ _ (Heap.get?_push_of_some _ e)
 have hL:cenv.locals=s.heap.objs.size:=by rw [←hcenv];rfl
 have hcl:cenv.cells=cellsFrom (s.heap.objs.size + 1) scope.names (zRb X.env.cells scope.names []):=by rw [←hcenv];rfl
 have hsc:cenv.scope=z9C scope X.env.scope:=by rw [←hcenv];rfl
 rw [←Heap.size_push s.heap { cls:=.type "dict",data:=.dict #[] }] at hcl
 have cm:∀{y c},(y,c)∈zRb X.env.cells scope.names []→X.env.cells.lookup y=some c∧c < s.heap.objs.size:=fun {y c} hm=>by
  rcases zJg hm with hm|⟨h1,rfl⟩
  ·cases hm
  ·obtain ⟨c,hc⟩:=hfree _ h1 rfl
   rw [hc]
   obtain ⟨w,z⟩:=I.cell _ _ hc
   exact ⟨rfl,z.lt⟩
 have mem:∀{y c},cenv.cells.lookup y=some c→(X.env.cells.lookup y=some c∧c < s.heap.objs.size)∨(s.heap.objs.size + 1≤c∧zrx (pushCells (s.heap.push { cls:=.type "dict",data:=.dict #[] }) scope.names) c none):=fun {y c} e=>by
  rw [hcl] at e
  rcases z1g (PySem.mem_of_lookup e) with hm|⟨_,h2,h3⟩
  ·exact .inl (cm hm)
  ·rw [Heap.size_push] at h2;exact .inr ⟨h2,h3⟩
 have look:∀{y},scope.names.lookup y=some .free→∃c,cenv.cells.lookup y=some c∧X.env.cells.lookup y=some c:=fun {y} hl=>by
  have hy:(y,NameKind.free)∈scope.names:=PySem.mem_of_lookup hl
  obtain ⟨c',e'⟩:=mem_lookup (z5i (names:=scope.names) (n:=(s.heap.push { cls:=.type "dict",data:=.dict #[] }).objs.size) (zAj (cells:=X.env.cells) (acc:=[]) hy))
  rw [←hcl] at e'
  refine ⟨c',e',?_⟩
  rw [hcl] at e'
  rcases z1g (PySem.mem_of_lookup e') with hm|⟨h1,_,_⟩
  ·exact (cm hm).1
  ·have:=ok.uniq _ h1
   rw [hl] at this;cases this
 have okB:(X.blk s H scope cenv fp).Ok:=by
  refine ⟨I.ok.mod,by show cenv.scope.kind=_;rw [hsc];exact ok.kind,by show cenv.globals=_;rw [←hcenv];exact I.ok.glob,by show cenv.builtins=_;rw [←hcenv];exact I.ok.blt,by show s.heap.objs.size≤cenv.locals;rw [hL];exact Nat.le_refl _,
   fun y z c e1 e2=>?_,fun y hy=>?_,fun y c z e=>?_,I.ok.hd,I.ok.frames,.inl rfl,fun b hb=>⟨?_,fun y c e z=>?_⟩,I.bs,Nat.le_trans I.ok.bsz I.sz,fun b o e hb=>?_,fun b hb z=>?_,I.stack,I.stkFree⟩
  ·have e1:cenv.cells.lookup y=some c:=e1
   have e2:cenv.cells.lookup z=some c:=e2
   rw [hcl] at e1 e2
   refine ztm (fun p hp=>?_) (fun y z c a b=>I.ok.inj y z c (cm a).1 (cm b).1) (PySem.mem_of_lookup e1) (PySem.mem_of_lookup e2)
   rw [Heap.size_push]
   exact Nat.lt_succ_of_lt (cm (y:=p.1) (c:=p.2) hp).2
  ·show ∃c,cenv.cells.lookup y=some c
   have key:∀k,cenv.kindOf y=some k→(k=.cell∨k=.free)→∃c,cenv.cells.lookup y=some c:=fun k hk hk'=>by
    unfold Env.kindOf at hk
    rw [hsc] at hk
    obtain ⟨k',e,r⟩:=zcj hk
    have:k'=.cell∨k'=.free:=by
     rcases r with rfl|⟨rfl,_⟩
     ·exact hk'
     ·exact .inr rfl
    rcases this with rfl|rfl
    ·obtain ⟨c,hm⟩:=zym (n:=(s.heap.push { cls:=.type "dict",data:=.dict #[] }).objs.size) (acc:=zRb X.env.cells scope.names []) (PySem.mem_of_lookup e)
     obtain ⟨c',e'⟩:=mem_lookup hm
     exact ⟨c',by rw [hcl];exact e'⟩
    ·obtain ⟨c,h1,_⟩:=look e
     exact ⟨c,h1⟩
   rcases hy with hy|hy
   ·exact key _ hy (.inl rfl)
   ·exact key _ hy (.inr rfl)
  ·have z:(scope.names.lookup y==some NameKind.cell)=true:=z
   have z:scope.names.lookup y=some .cell:=by simpa using z
   have e:cenv.cells.lookup y=some c:=e
   rw [hcl] at e
   rcases z1g (PySem.mem_of_lookup e) with hm|⟨_,h2,_⟩
   ·rcases zJg hm with hm|⟨h1,_⟩
    ·cases hm
    ·have q:=ok.uniq _ h1
     rw [z] at q;cases q
   ·rw [Heap.size_push] at h2
    exact Nat.le_of_succ_le h2
  ·show b≠cenv.locals
   rw [hL];exact Nat.ne_of_lt (hfp b hb).2
  ·have e:cenv.cells.lookup y=some c:=e
   rcases mem e with ⟨h1,_⟩|⟨h1,_⟩
   ·exact (hfp b hb).1.2.2.2.2.1 y c h1 z
   ·have h2:s.heap.objs.size + 1≤b:=by rw [←z];exact h1
    exact absurd (Nat.lt_of_lt_of_le (hfp b hb).2 (Nat.le_of_succ_le h2)) (Nat.lt_irrefl _)
  ·rcases (hfp b hb).1.2.2.2.1 with z|z
   ·exact I.ok.noex b o e z
   ·exact absurd (Nat.lt_of_lt_of_le (Heap.lt_size e) (Nat.le_trans I.ok.bsz z)) (Nat.lt_irrefl _)
  ·rcases List.mem_cons.mp (I.stkSub b z) with z|z
   ·exact (hfp b hb).1.2.1 z
   ·exact (hfp b hb).1.2.2.1 z
 refine ⟨okB,rfl,I.bare,Un.kept kp,⟨fun _=>none,?_,fun i y av e1 e2 e3=>?_⟩,fun y c e=>?_,?_,fun y c e=>?_,fun p hp=>?_,I.hok.kept kp,by rw [zej];exact I.len⟩
 ·show Heap.Ns _ cenv.locals _
  rw [hL]
  exact Heap.Ns.keeps (Heap.Ns.new ..) fun b o e=>pushCells_keeps _ _ _ _ e
 ·obtain ⟨e2,hne⟩:=zIm e2
  have hfr:scope.names.lookup y=some .free∧(cenv.kindOf y=some .cell∨cenv.kindOf y=some .free):=by
   have key:∀k,cenv.scope.names.lookup y=some k→k=.local∨k=.cell∨k=.free→scope.names.lookup y=some .free∧(cenv.kindOf y=some .cell∨cenv.kindOf y=some .free):=fun k hk hk'=>by
    have hk0:=hk
    rw [hsc] at hk
    obtain ⟨k',e,r⟩:=zcj hk
    have no:¬(k'=.local∨k'=.cell):=fun hh=>by
     rcases ok.own _ (PySem.mem_of_lookup e) hh with e'|e'
     ·obtain ⟨p,hp,hpy⟩:=List.mem_map.mp e'
      have e3:=ok.ix p hp
      have:p.1=y:=hpy
      rw [this] at e3
      exact hne (List.mem_map.mpr ⟨p,hp,zXo hN e3 e1⟩)
     ·exact e' (List.mem_of_getElem? e1)
    rcases r with rfl|⟨rfl,rfl⟩
    ·rcases hk' with rfl|rfl|rfl
     ·exact absurd (.inl rfl) no
     ·exact absurd (.inr rfl) no
     ·exact ⟨e,.inr hk0⟩
    ·exact ⟨e,.inl hk0⟩
   have e3:Vis cenv.scope y:=e3
   rcases e3 with e3|e3|e3
   ·exact key _ e3 (.inl rfl)
   ·exact key _ e3 (.inr (.inl rfl))
   ·exact key _ e3 (.inr (.inr rfl))
  obtain ⟨m,hn,hl⟩:=I.loc
  have hvis:Vis X.env.scope y:=(ok.free _ (PySem.mem_of_lookup hfr.1) rfl).elim (fun k=>.inr (.inl k)) (fun k=>.inr (.inr k))
  obtain ⟨w,r,q⟩:=hl i y av e1 e2 hvis
  refine ⟨w,r,.inr ⟨hfr.2,?_⟩⟩
  obtain ⟨c,h1,h2⟩:=look hfr.1
  rcases q with ⟨k,_⟩|⟨_,c',e',z⟩
  ·have k:X.env.scope.names.lookup y=some .local:=k
   rcases ok.free _ (PySem.mem_of_lookup hfr.1) rfl with k'|k'<;>rw [show X.env.scope.names.lookup y=_ from k'] at k<;>cases k
  ·rw [h2] at e';cases e'
   exact ⟨c,h1,z.keeps kp⟩
 ·have e:cenv.cells.lookup y=some c:=e
  rcases mem e with ⟨h1,_⟩|⟨_,z⟩
  ·obtain ⟨w,z⟩:=I.cell y c h1
   exact ⟨w,z.keeps kp⟩
  ·exact ⟨_,z⟩
 ·show H cenv.locals=none
  rw [hL];exact I.hok.fresh (Nat.le_refl _)
 ·have e:cenv.cells.lookup y=some c:=e
  rcases mem e with ⟨h1,_⟩|⟨h1,_⟩
  ·exact I.freeC y c h1
  ·exact I.hok.fresh (Nat.le_of_succ_le h1)
 ·exact absurd (show p∈([]:List (Addr×Obj))++[] from hp) (by simp)
theorem zRB {E:Value→Shared→Prop} {D:Addr} {xs:List V} {y:V} {v:Value} {Q:Value→Shared→Prop} (I:Inv X pins σ H s) (hD:H D=some (.lst xs)) (hz:xs.length < sizeLine) (r:RelV y v)
  (h:∀s',Inv X pins σ (upd H D (.lst (xs++[y]))) s'→Q .none s'):wpAny (model X.prog X.w) X.A (call (.builtin "list.append") [.ref D,v]) Q E s:=by
 obtain ⟨hz',its,n,ri,e⟩:=I.hok D _ hD
 have hl:=ri.length
 refine append_at (hsz:=by rw [List.size_toArray];omega) e fun h' sb ho'=>?_
 refine h { s with heap:=h' } (I.write (t':=s.toks) (by rw [hD];trivial) (.inl rfl) (fun b u hb q=>(sb.2 b hb).trans q) ⟨_,ho'⟩ ⟨by rw [List.length_append];exact hz,its++[v],n + 1,ri.append (.cons r .nil),?_⟩)
 rw [ho']
 simp
def PTs (X:Cx) (ifs:List Expr) (t:TT):Prop:=
 ∀(pins:List (Addr×Obj)) (s:Shared) (σ:St) (H:Hp) (Q:Bool→Hp→Prop),Inv X pins σ H s→t σ H Q→
  wpAny (model X.prog X.w) X.A (forIn ifs true fun c r=>if r=true then do let ok ←isTrue c X.env (eval c X.env);pure (ForInStep.yield ok) else pure (ForInStep.yield r)) (TP X pins σ Q) X.xe s
def zSo:TT:=fun _ H Q=>Q true H
theorem zKh:PTs X [] zSo:=fun _ _ _ H _ I h=>wpAny_tests_nil ⟨H,I,h⟩
theorem zJh {c:Expr} {t:TT} (h:PT X c t):PTs X [c] t:=fun pins s σ H Q I hw=>wpAny_tests_one (h pins s σ H Q I hw)
end
theorem zFq {α:Type} {t:Sem α} {Q Q':α→Shared→Prop} {M:Model} {A:Around} {E:Value→Shared→Prop} {s:Shared} (h:wpAny M A t Q (fun _ _=>False) s) (hQ:∀a s,Q a s→Q' a s):wpAny M A t Q' E s:=wpAny_mono h hQ fun _ _ z=>False.elim z
theorem zGt {prog:Program} {w:World} {A:Around} {R:Result→Shared→Prop} {s:Shared} {elt target iter:Expr} {ifs:List Expr} {scope:Scope} {pos:Pos} {it acc:Value} {env:Env} (I:Nat→Shared→Prop)
  (turn:∀n s,I n s→wpAny (model prog w) A (pyNext it) (fun r s₁=>match r with
   |none=>R (.ok .next) s₁
   |some v=>wpAny (model prog w) A (letOwnedTupleGo target it v) (fun _ s₁'=>wpAny (model prog w) A (assign target env v) (fun _ s₂=>
     wpAny (model prog w) A (forIn ifs true fun c r=>if r=true then do let ok ←isTrue c env (eval c env);pure (ForInStep.yield ok) else pure (ForInStep.yield r)) (fun ok s₃=>
      if ok=true then wpAny (model prog w) A (eval elt env) (fun x s₄=>
       wpAny (model prog w) A (call (.builtin "list.append") [acc,x]) (fun _ s₅=>∃m,m < n∧I m s₅) (notedBy (model prog w) A env fun e s'=>R (.error e) s') s₄) (notedBy (model prog w) A env fun e s'=>R (.error e) s') s₃
      else ∃m,m < n∧I m s₃) (notedBy (model prog w) A env fun e s'=>R (.error e) s') s₂) (notedBy (model prog w) A env fun e s'=>R (.error e) s') s₁') (notedBy (model prog w) A env fun e s'=>R (.error e) s') s₁) (notedBy (model prog w) A env fun e s'=>R (.error e) s') s)
  (n:Nat) (h:I n s):
  codeAny (model prog w) A (.compLoop (.ListComp elt [⟨target,iter,ifs,0⟩] scope pos) 0 it acc env) R s:=by
 refine codeAny_loop rfl I (fun n s hI=>?_) n h
 show wpAny _ A ((compTurn (.ListComp elt [⟨target,iter,ifs,0⟩] scope pos) 0 it acc env).onRaise (fun x=>do noteFrame x env;theTreesLotGoes x)) _ _ s
 refine wpAny_noted ?_
 rw [compTurn_list]
 refine wpAny_bind (wpAny_standAt (wpAny_bind (wpAny_mono (turn n s hI) (fun r s₁ h₁=>?_) fun _ _ h'=>h')))
 cases r with
 |none=>exact wpAny_pure h₁
 |some v=>
  refine wpAny_bind (wpAny_mono h₁ (fun _ s₁' h₁'=>?_) fun _ _ h'=>h')
  refine wpAny_bind (wpAny_mono h₁' (fun _ s₂ h₂=>wpAny_bind (wpAny_mono h₂ (fun ok s₃ h₃=>?_) fun _ _ h'=>h')) fun _ _ h'=>h')
  cases ok with
  |false=>exact wpAny_pure ⟨rfl,h₃⟩
  |true=>
   exact wpAny_bind (wpAny_bind (wpAny_mono h₃ (fun x s₄ h₄=>wpAny_bind (wpAny_mono h₄ (fun _ s₅ h₅=>wpAny_pure (wpAny_pure ⟨rfl,h₅⟩)) fun _ _ h'=>h')) fun _ _ h'=>h'))
section
variable {X:Cx}
def tLc (wi:TI) (g:TG) (tt:TT) (te:TE) (vs:List Nat):TE:=fun σ H Q=>wi σ H fun J H1=>∀D,H1 D=none→∃W:Nat→Nat→Hp→Prop,(∃m,W 0 m (upd H1 D (.lst [])))∧∀i m H,W i m H→
 (J.stop i H∧Q (.ref D) H)∨(J.go i H∧∃Nx:Hp→Prop,(∀H',Nx H'→∃m',m' < m∧W (i + 1) m' H')∧∀x H',J.yld i H x H'→g x (wipe σ vs) H' fun σ2 H2=>wipe σ2 vs=wipe σ vs∧tt σ2 H2 fun b H3=>
  if b=true then te σ2 H3 fun y H4=>∃acc,H4 D=some (.lst acc)∧acc.length < sizeLine∧Nx (upd H4 D (.lst (acc++[y]))) else Nx H3)
theorem zXv {pins:List (Addr×Obj)} {s:Shared} {σ:St} {H:Hp} {Q:VK} {elt tg iter:Expr} {ifs:List Expr} {scope:Scope} {own:List (Str×Nat)} {pos pos':Pos} {wi:TI} {g:TG} {tt:TT} {te:TE} {use:Option (Value→Sem Unit)} {Qf:Value→Shared→Prop}
  (hc:X.calm=true) (hN:X.N.Nodup) (I:Inv X pins σ H s) (hi:PI X tg iter wi) (ok:zUp X.N X.env.scope scope own)
  (hg:∀(s:Shared) (H:Hp) (C:Addr) (cl:List (Str×Addr)) (fp:List Addr),PG (X.blk s H scope (compEnvC scope cl C X.env) fp) tg g) (ht:∀(s:Shared) (H:Hp) (C:Addr) (cl:List (Str×Addr)) (fp:List Addr),PTs (X.blk s H scope (compEnvC scope cl C X.env) fp) ifs tt)
  (he:∀(s:Shared) (H:Hp) (C:Addr) (cl:List (Str×Addr)) (fp:List Addr),PE (X.blk s H scope (compEnvC scope cl C X.env) fp) elt te) (hs:∀x,foldedSetIterable iter X.env x=pure x)
  (h:tLc wi g tt te (own.map (·.2)) σ H Q)
  (hRR:∀D C s' m H',Inv X pins σ H' s'→Q (.ref D) H'→s'.heap.Ns C m→zah X pins H' C→compPost (model X.prog X.w) X.A X.xe use Qf (.ref D) C (.ok .next) s'):
  wpAny (model X.prog X.w) X.A (comprehension (.ListComp elt [⟨tg,iter,ifs,0⟩] scope pos) scope X.env pos' (newList []) false (eval iter X.env) use) Qf X.xe s:=by
 have hfree:∀y∈scope.names,y.2=.free→∃c,X.env.cells.lookup y.1=some c:=fun y hy e=>by
  rcases ok.free y hy e with k|k
  ·exact I.ok.has _ (.inl k)
  ·exact I.ok.has _ (.inr k)
 refine wpAny_comprehension_free (use:=use) rfl hs (z8w hfree) ok.kind (fun y hy e=>by rw [ok.uniq y hy,e])
  (thn (hi pins s σ H _ I h) fun xv s1 hx=>thn hx fun itv s2 h2=>?_)
 obtain ⟨it,fp,tn,J,H2,e,I2,T,st2,f2,q⟩:=h2
 subst e
 refine wpAny_newObj_type (zCu ?_) (by show 0≤sizeLine;decide)
 generalize hD:s2.heap.objs.size=D
 have hDn:H2 D=none:=I2.hok.fresh (Nat.le_of_eq hD)
 obtain ⟨W,⟨m0,w0⟩,turn⟩:=q D hDn
 generalize hs3:({ s2 with heap:=s2.heap.push { cls:=.type "list",data:=.seq ([]:List Value).toArray } }:Shared)=s3
 have I3:Inv X pins σ (upd H2 D (.lst [])) s3:=by
  rw [←hs3]
  refine I2.laid (t':=s2.toks) (fun b o e=>Heap.get?_push_of_some _ e) (Nat.le_of_eq hD) ⟨Nat.zero_le _,[],0,.nil,?_⟩
  rw [←hD]
  exact Heap.get?_push_size _ rfl
 have h3:s3.heap=s2.heap.push { cls:=.type "list",data:=.seq ([]:List Value).toArray }:=by rw [←hs3]
 have sz:∀b∈fp,b < s2.heap.objs.size:=fun b hb=>by
  obtain ⟨o,e,_⟩:=T.obj _ _ st2 b hb
  exact Heap.lt_size e
 have f3:∀b∈fp,zah X pins (upd H2 D (.lst [])) b∧b < s3.heap.objs.size:=fun b hb=>by
  have hlt:=sz b hb
  refine ⟨⟨?_,(f2 b hb).2⟩,by rw [h3,Heap.size_push];exact Nat.lt_succ_of_lt hlt⟩
  rw [zi (by rw [←hD];exact Nat.ne_of_lt hlt)]
  exact (f2 b hb).1
 have st3:tn 0 s3.heap:=T.keep _ _ _ st2 fun b _ o e=>by rw [h3];exact Heap.get?_push_of_some _ e
 have I4:=z9u I3 ok hN f3
 have pg:=hg s3 (upd H2 D (.lst [])) s3.heap.objs.size (cellsFrom (s3.heap.objs.size + 1) scope.names (zRb X.env.cells scope.names [])) fp
 have pt:=ht s3 (upd H2 D (.lst [])) s3.heap.objs.size (cellsFrom (s3.heap.objs.size + 1) scope.names (zRb X.env.cells scope.names [])) fp
 have pe:=he s3 (upd H2 D (.lst [])) s3.heap.objs.size (cellsFrom (s3.heap.objs.size + 1) scope.names (zRb X.env.cells scope.names [])) fp
 show codeAny _ _ (.compStart (.ListComp elt [⟨tg,iter,ifs,0⟩] scope pos) 0 (.ref it) (.ref D) (compEnvC scope (cellsFrom (s3.heap.objs.size + 1) scope.names (zRb X.env.cells scope.names [])) s3.heap.objs.size X.env)) (compPost (model X.prog X.w) X.A X.xe use Qf (.ref D) s3.heap.objs.size) { s3 with heap:=pushCells (s3.heap.push { cls:=.type "dict",data:=.dict #[] }) scope.names }
 have nfp:∀b∈fp,(upd H2 D (.lst [])) b=none:=fun b hb=>(f3 b hb).1.1
 generalize hce:compEnvC scope (cellsFrom (s3.heap.objs.size + 1) scope.names (zRb X.env.cells scope.names [])) s3.heap.objs.size X.env=ce at I4 pg pt pe ⊢
 have cL:ce.locals=s3.heap.objs.size:=by subst hce;rfl
 generalize hH3:upd H2 D (.lst [])=H3 at I3 I4 pg pt pe w0 nfp f3
 generalize hs4:({ s3 with heap:=pushCells (s3.heap.push { cls:=.type "dict",data:=.dict #[] }) scope.names }:Shared)=s4 at I4 ⊢
 have st4:tn 0 s4.heap:=T.keep _ _ _ st3 fun b _ o e=>by rw [←hs4];exact pushCells_keeps _ _ _ _ (Heap.get?_push_of_some _ e)
 have stat:∀{σ':St} {H':Hp} {s':Shared},Inv (X.blk s3 H3 scope ce fp) [] σ' H' s'→(∀b∈fp,H' b=none)→∀b∈fp,zah (X.blk s3 H3 scope ce fp) [] H' b:=fun {σ' H' s'} I' hn b hb=>
  ⟨hn b hb,(I'.ok.exf b hb).1,I'.ok.exfs b hb,.inl hb,fun x c e=>(I'.ok.exf b hb).2 x c e,fun p hp=>absurd (show p∈([]:List (Addr×Obj))++[] from hp) (by simp)⟩
 have loop:codeAny (model X.prog X.w) X.A (.compLoop (.ListComp elt [⟨tg,iter,ifs,0⟩] scope pos) 0 (.ref it) (.ref D) ce) (compPost (model X.prog X.w) X.A X.xe use Qf (.ref D) s3.heap.objs.size) s4:=by
  refine zGt (fun n s'=>∃i H',Inv (X.blk s3 H3 scope ce fp) [] (wipe σ (own.map (·.2))) H' s'∧tn i s'.heap∧(∀b∈fp,H' b=none)∧W i n H') ?_ m0 ⟨0,H3,I4,st4,nfp,w0⟩
  rintro n s5 ⟨i,H5,I5,st5,n5,w5⟩
  rcases turn i n H5 w5 with ⟨stop,qq⟩|⟨go,Nx,hNx,step⟩
  ·have td:=T.done (X.blk s3 H3 scope ce fp) rfl rfl rfl hc i [] s5 _ H5 (fun _ _=>False) I5 (stat I5 n5) st5 stop
   refine zFq td fun r s6 ⟨hr,I6⟩=>?_
   subst hr
   have I7:Inv X pins σ H5 s6:=I3.call' (ch:=fp) I6.os I6.base I6.hok I6.bare fun b hb=>⟨(f3 b hb).1.2.2.2.1,(f3 b hb).1.2.1,(f3 b hb).1.2.2.2.2.1,(f3 b hb).1.2.2.2.2.2⟩
   have nC:H5 s3.heap.objs.size=none:=by
    have z:H5 ce.locals=none:=I6.free
    rw [cL] at z
    exact z
   obtain ⟨m,hn,_⟩:=I6.loc
   have hn:s6.heap.Ns ce.locals m:=hn
   rw [cL] at hn
   exact hRR D s3.heap.objs.size s6 m H5 I7 qq hn (I3.fpOk (Nat.le_refl _) nC)
  ·have ti:=T.item (X.blk s3 H3 scope ce fp) rfl rfl rfl hc i [] s5 _ H5 (fun _ _=>False) I5 (stat I5 n5) st5 go
   refine zFq ti fun r s6 ⟨u,hr,h6⟩=>?_
   subst hr
   refine zFq h6 fun _ s7 ⟨x,H7,I7,r7,y7,st7,n7⟩=>?_
   have I7':=I7.pinned (stat I7 n7) (T.obj _ _ st7)
   refine zFq (pg _ s7 _ H7 x u _ I7' r7 (step x H7 y7)) fun _ s8 ⟨σ8,H8,I8,hw8,q8⟩=>?_
   refine zFq (pt _ s8 σ8 H8 _ I8 q8) fun b s9 ⟨H9,I9,q9⟩=>?_
   have fin:∀{s':Shared} {H':Hp},Inv (X.blk s3 H3 scope ce fp) ([]++zOl fp s7.heap) σ8 H' s'→Nx H'→∃m,m < n∧∃i H',Inv (X.blk s3 H3 scope ce fp) [] (wipe σ (own.map (·.2))) H' s'∧tn i s'.heap∧(∀b∈fp,H' b=none)∧W i m H':=fun {s' H'} I' nx=>by
    obtain ⟨m',hm,w'⟩:=hNx H' nx
    have pin':∀b∈fp,∀o,s7.heap.get? b=some o→s'.heap.get? b=some o∧H' b=none:=fun b hb o e=>
     let z:=I'.pin (b,o) (List.mem_append_right _ (List.mem_append_right _ (zIk hb e)))
     ⟨z.1,z.2.1⟩
    have hl:(wipe σ (own.map (·.2))).length=σ8.length:=by rw [←hw8,zej]
    refine ⟨m',hm,i + 1,H',(I'.unpinned (pins:=[])).weak hl (fun j v e=>?_),T.keep _ _ _ st7 fun b hb o e=>(pin' b hb o e).1,fun b hb=>?_,w'⟩
    ·rw [←hw8] at e
     exact (zIm e).1
    ·obtain ⟨o,e,_⟩:=T.obj _ _ st7 b hb
     exact (pin' b hb o e).2
   cases b with
   |false=>
    simp only [Bool.false_eq_true,if_false] at q9 ⊢
    exact fin I9 q9
   |true=>
    simp only [if_true] at q9 ⊢
    refine zFq (pe _ s9 σ8 H9 _ I9 q9) fun z s10 ⟨yv,H10,I10,r10,acc,hD10,hz10,nx⟩=>?_
    exact zRB (X:=X.blk s3 H3 scope ce fp) I10 hD10 hz10 r10 fun s11 I11=>fin I11 nx
 exact codeAny_compStart_list loop (T.self X.A 0 _ _ _ st4 loop)
theorem zxh {elt tg iter:Expr} {ifs:List Expr} {scope:Scope} {own:List (Str×Nat)} {pos:Pos} {wi:TI} {g:TG} {tt:TT} {te:TE} (hc:X.calm=true) (hN:X.N.Nodup) (hi:PI X tg iter wi) (ok:zUp X.N X.env.scope scope own)
  (hg:∀(s:Shared) (H:Hp) (C:Addr) (cl:List (Str×Addr)) (fp:List Addr),PG (X.blk s H scope (compEnvC scope cl C X.env) fp) tg g) (ht:∀(s:Shared) (H:Hp) (C:Addr) (cl:List (Str×Addr)) (fp:List Addr),PTs (X.blk s H scope (compEnvC scope cl C X.env) fp) ifs tt)
  (he:∀(s:Shared) (H:Hp) (C:Addr) (cl:List (Str×Addr)) (fp:List Addr),PE (X.blk s H scope (compEnvC scope cl C X.env) fp) elt te) (hs:∀x,foldedSetIterable iter X.env x=pure x:=by intro _;rfl):
  PE X (.ListComp elt [⟨tg,iter,ifs,0⟩] scope pos) (tLc wi g tt te (own.map (·.2))):=by
 intro pins s σ H Q I h
 rw [eval_ListComp]
 refine zXv hc hN I hi ok hg ht he hs h fun D C s' m H' I' q hn f=>⟨m,hn,fun h'' sb=>?_⟩
 obtain ⟨f0,f1,f2,f3,f4,f5⟩:=f
 exact ⟨.ref D,H',I'.turned (t':=s'.toks) (fun b o hb e=>(sb.2 b hb).trans e) f0 f1 f3 f4 f5,rfl,q⟩
theorem zso {i:Nat} {y:Str} {py:Pos} {elt tg iter:Expr} {ifs:List Expr} {scope:Scope} {own:List (Str×Nat)} {pos spos:Pos} {wi:TI} {g:TG} {tt:TT} {te:TE} (hc:X.calm=true) (hN:X.N.Nodup) (hy:X.N[i]?=some y) (hyl:X.env.scope.names.lookup y=some .local)
  (hsw:swapsWith (.ListComp elt [⟨tg,iter,ifs,0⟩] scope pos) (some (.Name y py)) spos.line X.env=pure true) (hi:PI X tg iter wi) (ok:zUp X.N X.env.scope scope own)
  (hg:∀(s:Shared) (H:Hp) (C:Addr) (cl:List (Str×Addr)) (fp:List Addr),PG (X.blk s H scope (compEnvC scope cl C X.env) fp) tg g) (ht:∀(s:Shared) (H:Hp) (C:Addr) (cl:List (Str×Addr)) (fp:List Addr),PTs (X.blk s H scope (compEnvC scope cl C X.env) fp) ifs tt)
  (he:∀(s:Shared) (H:Hp) (C:Addr) (cl:List (Str×Addr)) (fp:List Addr),PE (X.blk s H scope (compEnvC scope cl C X.env) fp) elt te) (hs:∀x,foldedSetIterable iter X.env x=pure x:=by intro _;rfl):
  PS X (.Assign [.Name y py] (.ListComp elt [⟨tg,iter,ifs,0⟩] scope pos) spos) (z8y (tLc wi g tt te (own.map (·.2))) (zMg i)):=by
 intro pins s σ H D I h
 rw [exec_Assign_Name_used _ _ _ _ hsw]
 refine wpAny_bind (wpAny_standAt (wpAny_bind ?_))
 show wpAny _ X.A (do let _ ←comprehension (.ListComp elt [⟨tg,iter,ifs,0⟩] scope pos) scope X.env (firstIterPos [⟨tg,iter,ifs,0⟩] pos) (newList []) false (eval iter X.env) (some (assign (.Name y py) X.env))) _ _ s
 have h:tLc wi g tt te (own.map (·.2)) σ H (fun x H1=>zMg i x σ H1 D.nx):=h
 refine wpAny_bind (thn (zXv (Qf:=fun _ s'=>SP X pins D .next s') hc hN I hi ok hg ht he hs h fun L C s' m H' I' q hn f=>?_) fun _ s' hq=>wpAny_pure (wpAny_pure hq))
 show wpAny _ _ (assign (.Name y py) X.env (.ref L)) _ _ _
 refine wpAny_assign_Name (zsr (v:=V.ref L) I' hN hy (.inl hyl) rfl (fun s2 I2 ⟨a,sb,ha⟩=>?_) (.inr hyl))
 obtain ⟨f0,f1,f2,f3,f4,f5⟩:=f
 have haC:C≠a:=by
  rcases ha with z|z
  ·rw [z];exact f1
  ·exact fun e=>f4 y a z e.symm
 refine ⟨m,hn.sameBut sb haC,fun h3 sb3=>?_⟩
 exact ⟨_,H',I2.turned (t':=s2.toks) (fun b o hb e=>(sb3.2 b hb).trans e) f0 f1 f3 f4 f5,q⟩
theorem ztq {elt:Expr} {gs:List Comprehension} {scope:Scope} {pos py:Pos} {y:Str} {l:Nat} {env:Env} (hk:env.scope.kind=.function) (hy:env.scope.names.lookup y=some .local) (hl:(py.line==pos.line)=true)
  (ha:(scope.names.any fun (n,k)=>n==y&&(k==.local||k==.cell))=false):swapsWith (.ListComp elt gs scope pos) (some (.Name y py)) l env=pure true:=by
 have ky:env.kindOf y=some .local:=hy
 have hb:env.blockKind=.function:=by unfold Env.blockKind;rw [hk];rfl
 unfold swapsWith
 simp only [hb,ky,ha,Expr.pos,hl]
 rfl
end
theorem zUe {K:PySem.W.Frag} {a:Addr} {xs:List V} {g:TG} {tt:TT} {te:TE} {vs:List Nat} {σ:St} {H1:Hp} {D:Addr} {Qd:Hp→Prop} (Pv:Nat→Hp→Prop) (h0:Pv 0 (upd H1 D (.lst []))) (hl:∀i H,i≤xs.length→Pv i H→SqL K H a xs)
  (hs:∀i x H,xs[i]?=some x→Pv i H→g x (wipe σ vs) H fun σ2 H2=>wipe σ2 vs=wipe σ vs∧tt σ2 H2 fun b H3=>
   if b=true then te σ2 H3 fun y H4=>∃acc,H4 D=some (.lst acc)∧acc.length < sizeLine∧Pv (i + 1) (upd H4 D (.lst (acc++[y]))) else Pv (i + 1) H3) (hd:∀H,Pv xs.length H→Qd H):
  ∃W:Nat→Nat→Hp→Prop,(∃m,W 0 m (upd H1 D (.lst [])))∧∀i m H,W i m H→
   ((Itl K a).stop i H∧Qd H)∨((Itl K a).go i H∧∃Nx:Hp→Prop,(∀H',Nx H'→∃m',m' < m∧W (i + 1) m' H')∧∀x H',(Itl K a).yld i H x H'→g x (wipe σ vs) H' fun σ2 H2=>wipe σ2 vs=wipe σ vs∧tt σ2 H2 fun b H3=>
    if b=true then te σ2 H3 fun y H4=>∃acc,H4 D=some (.lst acc)∧acc.length < sizeLine∧Nx (upd H4 D (.lst (acc++[y]))) else Nx H3):=by
 refine ⟨fun i m H=>m=xs.length - i∧i≤xs.length∧Pv i H,⟨xs.length,by simp,Nat.zero_le _,h0⟩,?_⟩
 rintro i m H ⟨rfl,hi,p⟩
 have q:=hl i H hi p
 by_cases hlt:i < xs.length
 ·refine .inr ⟨⟨xs,xs[i],q,by simp [hlt]⟩,Pv (i + 1),fun H' p'=>⟨xs.length - (i + 1),by omega,rfl,hlt,p'⟩,fun x H' y=>?_⟩
  obtain ⟨e,y⟩:=y
  subst e
  exact hs i x _ (y xs q) p
 ·have e:i=xs.length:=by omega
  subst e
  exact .inl ⟨⟨xs,q,Nat.le_refl _⟩,hd H p⟩
theorem zcC {K:PySem.W.Frag} {a:Addr} {xs:List V} {g:TG} {tt:TT} {te:TE} {vs:List Nat} {σ:St} {H1:Hp} {D:Addr} {Qd:Hp→Prop} (Pv:Nat→Hp→Prop) (h0:Pv 0 (upd H1 D (.lst []))) (hl:∀i H,i≤xs.length→Pv i H→SqT K H a xs)
  (hs:∀i x H,xs[i]?=some x→Pv i H→g x (wipe σ vs) H fun σ2 H2=>wipe σ2 vs=wipe σ vs∧tt σ2 H2 fun b H3=>
   if b=true then te σ2 H3 fun y H4=>∃acc,H4 D=some (.lst acc)∧acc.length < sizeLine∧Pv (i + 1) (upd H4 D (.lst (acc++[y]))) else Pv (i + 1) H3) (hd:∀H,Pv xs.length H→Qd H):
  ∃W:Nat→Nat→Hp→Prop,(∃m,W 0 m (upd H1 D (.lst [])))∧∀i m H,W i m H→
   ((Itt K a).stop i H∧Qd H)∨((Itt K a).go i H∧∃Nx:Hp→Prop,(∀H',Nx H'→∃m',m' < m∧W (i + 1) m' H')∧∀x H',(Itt K a).yld i H x H'→g x (wipe σ vs) H' fun σ2 H2=>wipe σ2 vs=wipe σ vs∧tt σ2 H2 fun b H3=>
    if b=true then te σ2 H3 fun y H4=>∃acc,H4 D=some (.lst acc)∧acc.length < sizeLine∧Nx (upd H4 D (.lst (acc++[y]))) else Nx H3):=by
 refine ⟨fun i m H=>m=xs.length - i∧i≤xs.length∧Pv i H,⟨xs.length,by simp,Nat.zero_le _,h0⟩,?_⟩
 rintro i m H ⟨rfl,hi,p⟩
 have q:=hl i H hi p
 by_cases hlt:i < xs.length
 ·refine .inr ⟨⟨xs,xs[i],q,by simp [hlt]⟩,Pv (i + 1),fun H' p'=>⟨xs.length - (i + 1),by omega,rfl,hlt,p'⟩,fun x H' y=>?_⟩
  obtain ⟨e,y⟩:=y
  subst e
  exact hs i x _ (y xs q) p
 ·have e:i=xs.length:=by omega
  subst e
  exact .inl ⟨⟨xs,q,Nat.le_refl _⟩,hd H p⟩
def zLB (N:List Str) (sc scope:Scope) (own:List (Str×Nat)):Bool:=
 (match scope.kind with|.function=>true|_=>false)&&(scope.names.all fun y=>decide (scope.names.lookup y.1=some y.2))&&(own.all fun p=>decide (N[p.2]?=some p.1))&&
  (scope.names.all fun y=>match y.2 with
   |.free=>(match sc.names.lookup y.1 with|some .cell=>true|some .free=>true|_=>false)
   |.local=>decide (y.1∈own.map (·.1))||decide (y.1∉N)
   |.cell=>decide (y.1∈own.map (·.1))||decide (y.1∉N)
   |_=>true)
theorem z9c {N:List Str} {sc scope:Scope} {own:List (Str×Nat)} (h:zLB N sc scope own=true):zUp N sc scope own:=by
 unfold zLB at h
 simp only [Bool.and_eq_true,List.all_eq_true,decide_eq_true_eq] at h
 obtain ⟨⟨⟨h1,h2⟩,h3⟩,h4⟩:=h
 refine ⟨?_,h2,h3,fun y hy e=>?_,fun y hy e=>?_⟩
 ·split at h1
  ·assumption
  ·cases h1
 ·have q:=h4 y hy
  simp only [e] at q
  split at q<;>first|exact .inl (by assumption)|exact .inr (by assumption)|cases q
 ·have q:=h4 y hy
  rcases e with e|e<;>(simp only [e,Bool.or_eq_true,decide_eq_true_eq] at q;exact q)
end L2
namespace L2
open PySem PySem.Spec PyProof.Rows
end L2
namespace L2
open PySem PySem.Spec PyProof.Rows
section
variable {κ:Type} [DecidableEq κ]
def zLb (kvs:List (κ×V)) (k:κ):Option V:=(kvs.find? fun kv=>decide (kv.1=k)).map (·.2)
def putK (kvs:List (κ×V)) (k:κ) (v:V):List (κ×V):=
 if (kvs.any fun kv=>decide (kv.1=k))=true then kvs.map (fun kv=>if kv.1=k then (kv.1,v) else kv) else kvs++[(k,v)]
def zhe (kvs:List (κ×V)) (k:κ):List (κ×V):=kvs.filter fun kv=>decide (kv.1≠k)
theorem zRe {p:κ×V} {r:List (κ×V)} {k:κ} (e:p.1=k):zLb (p::r) k=some p.2:=by simp [zLb,List.find?_cons,e]
theorem zud {p:κ×V} {r:List (κ×V)} {k:κ} (e:¬p.1=k):zLb (p::r) k=zLb r k:=by simp [zLb,List.find?_cons,e]
theorem zko (k:κ):∀kvs:List (κ×V),(kvs.any fun kv=>decide (kv.1=k))=(zLb kvs k).isSome
 |[]=>rfl
 |p::r=>by
  rw [List.any_cons]
  by_cases e:p.1=k
  ·simp only [zRe e,decide_eq_true e,Bool.true_or,Option.isSome_some]
  ·rw [zud e,decide_eq_false e,Bool.false_or];exact zko k r
theorem zMn (kvs:List (κ×V)) (k:κ) (v:V):(putK kvs k v).length≤kvs.length + 1:=by
 unfold putK
 split
 ·rw [List.length_map];omega
 ·rw [List.length_append,List.length_cons,List.length_nil];omega
theorem zNt {kvs:List (κ×V)} {k:κ} (v:V) (h:zLb kvs k=none):putK kvs k v=kvs++[(k,v)]:=by
 unfold putK
 rw [zko,h]
 exact if_neg (by decide)
theorem zEe.isSome_eq {o:Option V} {u:Option Value} (r:zEe o u):o.isSome=u.isSome:=by
 cases o with
 |none=>cases u with
  |none=>rfl
  |some _=>exact (show False from r).elim
 |some _=>cases u with
  |none=>exact (show False from r).elim
  |some _=>rfl
theorem zEe.getD {o:Option V} {u:Option Value} {d:V} {d':Value} (r:zEe o u) (rd:RelV d d'):RelV (o.getD d) (u.getD d'):=by
 cases o with
 |none=>cases u with
  |none=>exact rd
  |some _=>exact (show False from r).elim
 |some _=>cases u with
  |none=>exact (show False from r).elim
  |some _=>exact r
theorem KV.val {kvs:List (κ×V)} {vs:List (κ×Value)} (r:KV kvs vs) (k:κ):zEe (zLb kvs k) (valueAt vs k):=by
 unfold KV at r
 induction r with
 |nil=>exact True.intro
 |@cons p q ps qs h t ih=>
  obtain ⟨h1,h2⟩:=h
  by_cases e:p.1=k
  ·have e':q.1=k:=h1.symm.trans e
   have b:valueAt (q::qs) k=some q.2:=by simp [valueAt,List.find?_cons,e']
   rw [zRe e,b];exact h2
  ·have e':¬q.1=k:=fun z=>e (h1.trans z)
   have b:valueAt (q::qs) k=valueAt qs k:=by simp [valueAt,List.find?_cons,e']
   rw [zud e,b];exact ih
theorem KV.any {kvs:List (κ×V)} {vs:List (κ×Value)} (r:KV kvs vs) (k:κ):(kvs.any fun kv=>decide (kv.1=k))=vs.any fun kv=>decide (kv.1=k):=by
 unfold KV at r
 induction r with
 |nil=>rfl
 |cons h t ih=>rw [List.any_cons,List.any_cons,ih,h.1]
theorem KV.repl {kvs:List (κ×V)} {vs:List (κ×Value)} (r:KV kvs vs) (k:κ) {y:V} {u:Value} (ry:RelV y u):
  KV (kvs.map fun kv=>if kv.1=k then (kv.1,y) else kv) (vs.map fun kv=>if kv.1=k then (kv.1,u) else kv):=by
 unfold KV at r ⊢
 induction r with
 |nil=>exact .nil
 |@cons p q ps qs h t ih=>
  rw [List.map_cons,List.map_cons]
  refine .cons ?_ ih
  obtain ⟨h1,h2⟩:=h
  by_cases e:p.1=k
  ·rw [if_pos e,if_pos (h1.symm.trans e)];exact ⟨h1,ry⟩
  ·rw [if_neg e,if_neg (fun z=>e (h1.trans z))];exact ⟨h1,h2⟩
theorem KV.put {kvs:List (κ×V)} {vs:List (κ×Value)} (r:KV kvs vs) (k:κ) {y:V} {u:Value} (ry:RelV y u):KV (putK kvs k y) (stored vs k u):=by
 unfold putK stored
 rw [r.any k]
 by_cases e:(vs.any fun kv=>decide (kv.1=k))=true
 ·rw [if_pos e,if_pos e];exact r.repl k ry
 ·rw [if_neg e,if_neg e];exact Paired.snoc r ⟨rfl,ry⟩
theorem KV.drop {kvs:List (κ×V)} {vs:List (κ×Value)} (r:KV kvs vs) (k:κ):KV (zhe kvs k) (without vs k):=by
 unfold KV at r ⊢
 unfold zhe without
 induction r with
 |nil=>exact .nil
 |@cons p q ps qs h t ih=>
  obtain ⟨h1,h2⟩:=h
  rw [List.filter_cons,List.filter_cons]
  by_cases e:p.1=k
  ·have a:¬decide (p.1≠k)=true:=by simp [e]
   have b:¬decide (q.1≠k)=true:=by simp [h1.symm.trans e]
   rw [if_neg a,if_neg b];exact ih
  ·have e':¬q.1=k:=fun z=>e (h1.trans z)
   have a:decide (p.1≠k)=true:=by simp [e]
   have b:decide (q.1≠k)=true:=by simp [e']
   rw [if_pos a,if_pos b];exact .cons ⟨h1,h2⟩ ih
theorem KV.length {kvs:List (κ×V)} {vs:List (κ×Value)} (r:KV kvs vs):kvs.length=vs.length:=Paired.length r
theorem zTs (kvs:List (κ×V)) (k:κ):(zhe kvs k).length≤kvs.length:=List.length_filter_le _ _
end
theorem zDh {P:Program} {w:World} {k:Key} {u:Value} (r:RelV (kV k) u):(zsb P w).is k u=true:=by
 cases k with
 |inl i=>obtain ⟨t,e⟩:=(show ∃t,u=Value.int i t from r);subst e;exact zcv P w i t
 |inr x=>obtain ⟨t,e⟩:=(show ∃t,u=Value.str x t from r);subst e;exact zUu P w x t
theorem zOr {P:Program} {w:World}:∀{ks:List Key} {us:List Value},Vals (ks.map kV) us→ItemsAre (zsb P w) ks us
 |[],_,r=>by rw [List.map_nil] at r;cases r;exact .nil
 |k::ks,_,r=>by
  rw [List.map_cons] at r
  cases r with
  |cons h t=>exact .cons (zDh h) (zOr t)
abbrev KT (H:Hp):List (List Key×V)→List (List Key×Addr×Value)→Prop:=Paired fun p q=>p.1=q.1∧H q.2.1=some (.tup (p.1.map kV))∧RelV p.2 q.2.2
theorem KT.val {H:Hp} {kvs:List (List Key×V)} {xs:List (List Key×Addr×Value)} (r:KT H kvs xs) (k:List Key):zEe (zLb kvs k) ((atKey xs k).map (·.2)):=by
 induction r with
 |nil=>exact True.intro
 |@cons p q ps qs h t ih=>
  obtain ⟨h1,_,h2⟩:=h
  by_cases e:p.1=k
  ·have e':q.1=k:=h1.symm.trans e
   have b:atKey (q::qs) k=some q.2:=by simp [atKey,List.find?_cons,e']
   rw [zRe e,b];exact h2
  ·have e':¬q.1=k:=fun z=>e (h1.trans z)
   have b:atKey (q::qs) k=atKey qs k:=by simp [atKey,List.find?_cons,e']
   rw [zud e,b];exact ih
theorem KT.repl {H:Hp} {kvs:List (List Key×V)} {xs:List (List Key×Addr×Value)} (r:KT H kvs xs) (k:List Key) {y:V} {u:Value} (ry:RelV y u):
  KT H (kvs.map fun kv=>if kv.1=k then (kv.1,y) else kv) (xs.map (putAt k u)):=by
 induction r with
 |nil=>exact .nil
 |@cons p q ps qs h t ih=>
  rw [List.map_cons,List.map_cons]
  refine .cons ?_ ih
  obtain ⟨h1,h2,h3⟩:=h
  unfold putAt
  by_cases e:p.1=k
  ·rw [if_pos e,if_pos (h1.symm.trans e)];exact ⟨h1,h2,ry⟩
  ·rw [if_neg e,if_neg (fun z=>e (h1.trans z))];exact ⟨h1,h2,h3⟩
theorem KT.put {H:Hp} {kvs:List (List Key×V)} {xs:List (List Key×Addr×Value)} (r:KT H kvs xs) (k:List Key) {b:Addr} {y:V} {u:Value} (hb:H b=some (.tup (k.map kV))) (ry:RelV y u):
  KT H (putK kvs k y) (storedH xs k b u):=by
 have e:(kvs.any fun kv=>decide (kv.1=k))=(atKey xs k).isSome:=by
  rw [zko,(r.val k).isSome_eq,Option.isSome_map]
 unfold putK storedH
 rw [e]
 by_cases q:(atKey xs k).isSome=true
 ·rw [if_pos q,if_pos q];exact r.repl k ry
 ·rw [if_neg q,if_neg q];exact Paired.snoc r ⟨rfl,hb,ry⟩
theorem KT.keeps {H H':Hp} {kvs:List (List Key×V)} {xs:List (List Key×Addr×Value)} (r:KT H kvs xs) (ht:∀b ys,H b=some (.tup ys)→H' b=some (.tup ys)):KT H' kvs xs:=
 Paired.mapP r fun _ _ z=>⟨z.1,ht _ _ z.2.1,z.2.2⟩
section
variable {P:Program} {w:World} {H:Hp} {h:Heap} {a:Addr}
theorem zfA {u:HO} (ok:HOk P w H h) (e:Rd H a u):zzb P w H h a u:=e.ok ok
theorem zKi {kvs:List (Key×V)} (ok:HOk P w H h) (e:Rd H a (.dK kvs)):kvs.length≤sizeLine∧(a==sysModules)=false∧∃vs,KV kvs vs∧h.DictOf (zsb P w) a vs:=
 show zzb P w H h a (.dK kvs) from zfA ok e
theorem zMs {kvs:List (Key×V)} (ok:HOk P w H h) (e:H a=some (.dK kvs)):kvs.length≤sizeLine∧(a==sysModules)=false∧∃vs,KV kvs vs∧h.DictOf (zsb P w) a vs:=zKi ok (.inl e)
theorem zlk {ks:List Key} (ok:HOk P w H h) (e:H a=some (.tup (ks.map kV))):(tupleKind (zsb P w)).is h ks a:=by
 obtain ⟨_,its,r,o,h1,h2,n,h3⟩:=(show zzb P w H h a (.tup (ks.map kV)) from ok a _ e)
 exact ⟨o,its.toArray,n,h1,h2,h3,by simpa using zOr r⟩
theorem zrk {kvs:List (List Key×V)} (ok:HOk P w H h) (e:Rd H a (.dT kvs)):kvs.length≤sizeLine∧(a==sysModules)=false∧
  ∃xs,KT H kvs xs∧h.DictOfH (tupleKind (zsb P w)) a xs:=by
 obtain ⟨z,y,xs,r,o,es,ep,h1,h2,h3,h4,h5⟩:=(show zzb P w H h a (.dT kvs) from zfA ok e)
 refine ⟨z,y,xs,r,o,es,ep,h1,h2,h3,h4,fun x hx=>?_,h5⟩
 have all:∀{l:List (List Key×V)} {m:List (List Key×Addr×Value)},KT H l m→∀x∈m,(tupleKind (zsb P w)).is h x.1 x.2.1:=by
  intro l m q
  induction q with
  |nil=>intro x hx;exact nomatch hx
  |@cons p q ps qs hq t ih=>
   intro x hx
   rcases List.mem_cons.mp hx with e|hx
   ·subst e
    exact zlk ok (by rw [←hq.1];exact hq.2.1)
   ·exact ih x hx
 exact all r x hx
theorem z2z {kvs:List (List Key×V)} (ok:HOk P w H h) (e:H a=some (.dT kvs)):kvs.length≤sizeLine∧(a==sysModules)=false∧
  ∃xs,KT H kvs xs∧h.DictOfH (tupleKind (zsb P w)) a xs:=zrk ok (.inl e)
end
def zpd (H:Hp) (a:Addr) (y:V) (r:Option V):Prop:=
 (∃kvs k,Rd H a (.dK kvs)∧y=kV k∧r=zLb kvs k)∨∃kvs k b,Rd H a (.dT kvs)∧y=.ref b∧H b=some (.tup (k.map kV))∧r=zLb kvs k
def zRk (H:Hp) (a:Addr) (y v:V) (H':Hp):Prop:=
 (∃kvs k,H a=some (.dK kvs)∧y=kV k∧kvs.length < sizeLine∧H'=upd H a (.dK (putK kvs k v)))∨
 ∃kvs k b,H a=some (.dT kvs)∧y=.ref b∧H b=some (.tup (k.map kV))∧kvs.length < sizeLine∧H'=upd H a (.dT (putK kvs k v))
theorem zpd.k {H:Hp} {a:Addr} {kvs:List (Key×V)} {k:Key} (e:H a=some (.dK kvs)):zpd H a (kV k) (zLb kvs k):=.inl ⟨kvs,k,.inl e,rfl,rfl⟩
theorem zpd.t {H:Hp} {a b:Addr} {kvs:List (List Key×V)} {k:List Key} (e:H a=some (.dT kvs)) (eb:H b=some (.tup (k.map kV))):zpd H a (.ref b) (zLb kvs k):=.inr ⟨kvs,k,b,.inl e,rfl,eb,rfl⟩
theorem zRk.k {H:Hp} {a:Addr} {kvs:List (Key×V)} {k:Key} {v:V} (e:H a=some (.dK kvs)) (hl:kvs.length < sizeLine):zRk H a (kV k) v (upd H a (.dK (putK kvs k v))):=.inl ⟨kvs,k,e,rfl,hl,rfl⟩
theorem zRk.t {H:Hp} {a b:Addr} {kvs:List (List Key×V)} {k:List Key} {v:V} (e:H a=some (.dT kvs)) (eb:H b=some (.tup (k.map kV))) (hl:kvs.length < sizeLine):
  zRk H a (.ref b) v (upd H a (.dT (putK kvs k v))):=.inr ⟨kvs,k,b,e,rfl,eb,hl,rfl⟩
section
variable {X:Cx} {pins:List (Addr×Obj)} {σ:St} {H:Hp} {s:Shared} {a:Addr} {y v:V} {u r:Value} {o:Option V} {A:Around} {E:Value→Shared→Prop}
theorem Inv.big (I:Inv X pins σ H s):sysModules < s.heap.objs.size:=by
 have h:mainGlobals < s.heap.objs.size:=(I.mod.glob.keeps I.bk).lt
 exact Nat.lt_trans (by decide) h
theorem zJy {Q:Value→Shared→Prop} (hu:A.units + 1 < cLine) (I:Inv X pins σ H s) (g:zpd H a y (some v)) (ry:RelV y u) (h:∀w' s',Inv X pins σ H s'→RelV v w'→Q w' s'):
  wpAny (model X.prog X.w) A (getItem (.ref a) u) Q E s:=by
 rcases g with ⟨kvs,k,e,ey,l⟩|⟨kvs,k,b,e,ey,eb,l⟩
 ·subst ey
  obtain ⟨z,hd,vs,rel,dd⟩:=zKi I.hok e
  obtain ⟨w',hw,rw'⟩:=zEe.some_of (v:=v) (o:=valueAt vs k) (by rw [l];exact rel.val k)
  exact wpAny_getItem_of (zDh ry) dd.mapOf hw (h w' _ (I.tok _) rw')
 ·subst ey
  cases (show u=Value.ref b from ry)
  obtain ⟨z,hd,xs,rel,dd⟩:=zrk I.hok e
  obtain ⟨w',hw,rw'⟩:=zEe.some_of (v:=v) (o:=(atKey xs k).map (·.2)) (by rw [l];exact rel.val k)
  obtain ⟨p,hp,hp2⟩:=Option.map_eq_some_iff.mp hw
  refine wpAny_getItem_heap (tupleKind_room_in1 hu) (zlk I.hok eb) dd hp ?_
  rw [hp2]
  exact h w' _ (I.tok _) rw'
theorem z1A {Q:Value→Shared→Prop} (hu:A.units + 1 < cLine) (I:Inv X pins σ H s) (g:zpd H a y o) (ry:RelV y u) (h:∀s',Inv X pins σ H s'→Q (.bool (!o.isSome)) s'):
  wpAny (model X.prog X.w) A (compareOp .NotIn u (.ref a)) Q E s:=by
 rcases g with ⟨kvs,k,e,ey,l⟩|⟨kvs,k,b,e,ey,eb,l⟩
 ·subst ey
  obtain ⟨z,hd,vs,rel,dd⟩:=zKi I.hok e
  refine wpAny_notIn_of (zDh ry) hd dd.mapOf ?_
  rw [←(rel.val k).isSome_eq,←l]
  exact h _ (I.tok _)
 ·subst ey
  cases (show u=Value.ref b from ry)
  obtain ⟨z,hd,xs,rel,dd⟩:=zrk I.hok e
  refine wpAny_notIn_heap (tupleKind_room_in1 hu) (zlk I.hok eb) hd dd ?_
  have q:=(rel.val k).isSome_eq
  rw [Option.isSome_map] at q
  rw [←q,←l]
  exact h _ (I.tok _)
theorem z2m {h':Heap} {t':Nat} {ob:HO} (I:Inv X pins σ H s) (mu:Mut (H a)) (hs:Heap.SameBut a s.heap h') (he:∃q,h'.get? a=some q) (new:zzb X.prog X.w (upd H a ob) h' a ob):
  Inv X pins σ (upd H a ob) { s with heap:=h',toks:=t' }:=
 I.write (x:=a) (e:=a) mu (.inl rfl) (fun b q hb z=>(hs.2 b hb).trans z) he new
theorem z5s {P:Program} {w:World} {H':Hp} {h':Heap} {kvs:List (Key×V)} {vs:List (Key×Value)} (z:kvs.length≤sizeLine) (hd:(a==sysModules)=false) (rel:KV kvs vs) (dd:h'.DictOf (zsb P w) a vs):
  zzb P w H' h' a (.dK kvs):=⟨z,hd,vs,rel,dd⟩
theorem zYx {H':Hp} {Q:Unit→Shared→Prop} (hu:A.units + 1 < cLine) (I:Inv X pins σ H s) (g:zRk H a y v H') (ry:RelV y u) (rv:RelV v r) (h:∀s',Inv X pins σ H' s'→Q () s'):
  wpAny (model X.prog X.w) A (setItem (.ref a) u r) Q E s:=by
 rcases g with ⟨kvs,k,e,ey,l,eH⟩|⟨kvs,k,b,e,ey,eb,l,eH⟩
 ·subst ey eH
  obtain ⟨z,hd,vs,rel,dd⟩:=zMs I.hok e
  have hz:vs.length≤sizeLine:=by rw [←rel.length];exact z
  have hl:(putK kvs k v).length≤sizeLine:=by have:=zMn kvs k v;omega
  refine wpAny_setItem_pairs (hsz:=hz) (zDh ry) dd fun h' dd' hs=>h _ ?_
  have he:∃q,h'.get? a=some q:=let ⟨q,_,_,hq,_⟩:=dd';⟨q,hq⟩
  exact z2m I (by rw [e];exact True.intro) hs he (z5s hl hd (rel.put k rv) dd')
 ·subst ey eH
  cases (show u=Value.ref b from ry)
  obtain ⟨z,hd,xs,rel,dd⟩:=z2z I.hok e
  have hz:xs.length≤sizeLine:=by rw [←Paired.length rel];exact z
  have hl:(putK kvs k v).length≤sizeLine:=by have:=zMn kvs k v;omega
  refine wpAny_setItem_heap (hsz:=hz) (tupleKind_room_in1 hu) (zlk I.hok eb) dd fun h' dd' hs=>h _ ?_
  obtain ⟨q,es,ep,hq,h2,h3,h4,_,h5⟩:=dd'
  refine z2m I (by rw [e];exact True.intro) hs ⟨q,hq⟩ ⟨hl,hd,_,(rel.put k eb rv).keeps fun c ys ec=>?_,q,es,ep,hq,h2,h3,h4,h5⟩
  rw [zi (zZb ec e (fun z=>nomatch z))]
  exact ec
end
section
variable {X:Cx} {pins:List (Addr×Obj)} {σ:St} {H:Hp} {s:Shared} {a:Addr} {kvs:List (Key×V)} {k:Key} {u:Value} {A:Around} {E:Value→Shared→Prop}
theorem zRC {Q:Unit→Shared→Prop} (I:Inv X pins σ H s) (e:H a=some (.dK kvs)) (ry:RelV (kV k) u) (l:(zLb kvs k).isSome=true) (h:∀s',Inv X pins σ (upd H a (.dK (zhe kvs k))) s'→Q () s'):
  wpAny (model X.prog X.w) A (delItem (.ref a) u) Q E s:=by
 obtain ⟨z,hd,vs,rel,dd⟩:=zMs I.hok e
 refine wpAny_delItem_slot dd.typeIs (by decide) PySem.F.slot_dict_delitem
  (call_meetsIn PySem.F.slot_dict_delitem dd.typeIs PySem.F.entry_dict_delitem (PySem.F.args_dict_delitem_2 _ _) (meets_dict_delitem_pairs (zsb X.prog X.w) a (zDh ry)) ⟨vs,dd,by rw [←rel.length];exact z,by rw [←(rel.val k).isSome_eq];exact l,fun h' dd' hs=>h _ ?_⟩)
 have he:∃q,h'.get? a=some q:=let ⟨q,_,_,hq,_⟩:=dd';⟨q,hq⟩
 exact z2m I (by rw [e];exact True.intro) hs he (z5s (Nat.le_trans (zTs kvs k) z) hd (rel.drop k) dd')
theorem zMC {v:V} {more:List Value} {Q:Value→Shared→Prop} (I:Inv X pins σ H s) (e:H a=some (.dK kvs)) (ry:RelV (kV k) u) (l:zLb kvs k=some v) (hm:more=[]∨∃x,more=[x])
  (h:∀w' s',Inv X pins σ (upd H a (.dK (zhe kvs k))) s'→RelV v w'→Q w' s'):wpAny (model X.prog X.w) A (call (.builtin "dict.pop") (.ref a::u::more)) Q E s:=by
 obtain ⟨z,hd,vs,rel,dd⟩:=zMs I.hok e
 obtain ⟨w',hw,rw'⟩:=zEe.some_of (v:=v) (o:=valueAt vs k) (by rw [←l];exact rel.val k)
 have hp:(keyPart u).isSome=true:=by
  cases k with
  |inl i=>obtain ⟨t,q⟩:=(show ∃t,u=Value.int i t from ry);subst q;rfl
  |inr x=>obtain ⟨t,q⟩:=(show ∃t,u=Value.str x t from ry);subst q;rfl
 have ha:argsOk "dict.pop" ⟨.ref a::u::more,[]⟩:=by
  rcases hm with q|⟨x,q⟩
  ·subst q;exact PySem.F.args_dict_pop_2 _ _
  ·subst q;exact PySem.F.args_dict_pop_3 _ _ _
 refine call_meetsIn PySem.F.slot_dict_pop dd.typeIs PySem.F.entry_dict_pop ha (meets_dict_pop_there (zsb X.prog X.w) a (zDh ry) more hm hp)
  ⟨vs,w',dd,by rw [←rel.length];exact z,hw,fun h' dd' hs=>h w' _ ?_ rw'⟩
 have he:∃q,h'.get? a=some q:=let ⟨q,_,_,hq,_⟩:=dd';⟨q,hq⟩
 exact z2m I (by rw [e];exact True.intro) hs he (z5s (Nat.le_trans (zTs kvs k) z) hd (rel.drop k) dd')
theorem zKC {Q:Value→Shared→Prop} (I:Inv X pins σ H s) (e:Rd H a (.dK kvs)) (h:∀t s',Inv X pins σ H s'→Q (.int kvs.length t) s'):wpAny (model X.prog X.w) A (call (.builtin "len") [.ref a]) Q E s:=by
 obtain ⟨z,hd,vs,rel,dd⟩:=zKi I.hok e
 refine call_len_dict hd dd (by rw [←rel.length];rw [sizeLine_eq] at z;omega) ?_
 rw [←rel.length]
 exact h _ _ (I.tok _)
end
def zaz (i:Expr):Prop:=∀ov iv,subscripted i false ov iv=operate [ov,iv] (getItem ov iv)
theorem zrv {prog:Program} {w:World} {A:Around} {E:Value→Shared→Prop} {s:Shared} {env:Env} {value slice:Expr} {pos:Pos} {T id:String} {Q:Value→Shared→Prop}
  (hl:typeLookup (.type T) "__getitem__"=pure (some (.builtin id))) (hs:zaz slice)
  (h:wpAny (model prog w) A (eval value env) (fun o s₁=>wpAny (model prog w) A (eval slice env) (fun i s₂=>s₂.TypeIs o T∧wpAny (model prog w) A (getItem o i) Q E s₂) E s₁) E s):
  wpAny (model prog w) A (eval (.Subscript value slice pos) env) Q E s:=by
 refine Subscript_ (wpAny_mono h (fun o s₁ h₁=>wpAny_mono h₁ (fun i s₂ h₂=>?_) fun _ _ x=>x) fun _ _ x=>x)
 obtain ⟨hT,h₂⟩:=h₂
 unfold subscriptTail
 refine wpAny_bind ?_
 rw [getitemInPython_of_ne hT.not_modules]
 refine wpAny_bind (wpAny_specialOf hT hl ?_)
 have fin:wpAny (model prog w) A (subscripted slice false o i) (fun r s₃=>wpAny (model prog w) A (letTemporaryGo value o r >>= fun _=>pure r) Q E s₃) E s₂:=by
  rw [hs o i]
  exact wpAny_operating (wpAny_mono h₂ (fun r s₃ h₃=>wpAny_bind (wpAny_letTemporaryGo (wpAny_pure h₃))) fun _ _ x=>x)
 first
  |exact wpAny_pure (wpAny_bind fin)
  |exact wpAny_bind (wpAny_pure (wpAny_bind fin))
  |exact wpAny_bind fin
theorem z7u {X:Cx} {pins:List (Addr×Obj)} {σ:St} {H:Hp} {s:Shared} {a:Addr} {y:V} {o:Option V} (I:Inv X pins σ H s) (g:zpd H a y o):s.TypeIs (.ref a) "dict":=by
 rcases g with ⟨kvs,k,e,_,_⟩|⟨kvs,k,b,e,_,_,_⟩
 ·obtain ⟨_,_,vs,_,dd⟩:=zKi I.hok e
  exact dd.typeIs
 ·obtain ⟨_,_,xs,_,dd⟩:=zrk I.hok e
  exact dd.typeIs
def ztC (td ty:TE):TE:=fun σ H Q=>td σ H fun x H1=>ty σ H1 fun y H2=>∃a v,x=.ref a∧zpd H2 a y (some v)∧Q v H2
def zFA (ty td:TE):TE:=fun σ H Q=>ty σ H fun y H1=>td σ H1 fun x H2=>∃a o,x=.ref a∧zpd H2 a y o∧Q (.bl (!o.isSome)) H2
def zGC (td ty tv:TE):TS:=fun D σ H=>tv σ H fun v H1=>td σ H1 fun x H2=>ty σ H2 fun y H3=>∃a H4,x=.ref a∧zRk H3 a y v H4∧D.nx σ H4
section
variable {X:Cx} {o i e value:Expr} {pos pos' tpos:Pos} {td ty tv:TE}
theorem zdn (hu:X.A.units + 1 < cLine) (ho:PE X o td) (hi:PE X i ty) (hs:zaz i):PE X (.Subscript o i pos) (ztC td ty):=by
 intro pins s σ H Q I h
 refine zrv PySem.F.slot_dict_getitem.lookup hs (thn (ho pins s σ H _ I h) fun u s1 ⟨x,H1,I1,rx,q1⟩=>thn (hi pins s1 σ H1 _ I1 q1) fun iv s2 ⟨y,H2,I2,ry,a,v,ex,g,q2⟩=>?_)
 subst ex
 obtain rfl:u=Value.ref a:=rx
 exact ⟨z7u I2 g,zJy hu I2 g ry fun w' s3 I3 rw'=>⟨v,H2,I3,rw',q2⟩⟩
theorem zqm (hu:X.A.units + 1 < cLine) (hi:PE X i ty) (ho:PE X o td):PC X .NotIn i o (zFA ty td):=by
 intro pins s σ H Q I h
 refine thn (hi pins s σ H _ I h) fun iv s1 ⟨y,H1,I1,ry,q1⟩=>thn (ho pins s1 σ H1 _ I1 q1) fun u s2 ⟨x,H2,I2,rx,a,ov,ex,g,q2⟩=>?_
 subst ex
 obtain rfl:u=Value.ref a:=rx
 exact z1A hu I2 g ry fun s3 I3=>⟨.bl (!ov.isSome),H2,I3,rfl,q2⟩
theorem zYq (hu:X.A.units + 1 < cLine) (ho:PE X o td) (hi:PE X i ty) (hv:PE X value tv) (hs:swapsWith value (some (.Subscript o i pos')) pos.line X.env=pure false):
  PS X (.Assign [.Subscript o i pos'] value pos) (zGC td ty tv):=by
 intro pins s σ H D I h
 refine wpAny_Assign_Subscript (thn (hv pins s σ H _ I h) fun r s1 ⟨v,H1,I1,rv,q1⟩=>thn (ho pins s1 σ H1 _ I1 q1) fun u s2 ⟨x,H2,I2,rx,q2⟩=>thn (hi pins s2 σ H2 _ I2 q2) fun iv s3 ⟨y,H3,I3,ry,a,H4,ex,g,q3⟩=>?_) hs
 subst ex
 obtain rfl:u=Value.ref a:=rx
 exact zYx hu I3 g ry rv fun s4 I4=>⟨σ,H4,I4,q3⟩
end
theorem zmz {P:Program} {w:World} {H:Hp} (h:Heap) (hb:sysModules < h.objs.size):zzb P w H (h.push { cls:=.type "dict",data:=.dict #[] }) h.objs.size (.dK []):=
 ⟨Nat.zero_le _,beq_eq_false_iff_ne.mpr (Ne.symm (Nat.ne_of_lt hb)),[],.nil,Heap.DictOf.new h⟩
theorem zgz {P:Program} {w:World} {H:Hp} (h:Heap) (hb:sysModules < h.objs.size):zzb P w H (h.push { cls:=.type "dict",data:=.dict #[] }) h.objs.size (.dT []):=
 ⟨Nat.zero_le _,beq_eq_false_iff_ne.mpr (Ne.symm (Nat.ne_of_lt hb)),[],.nil,_,#[],0,Heap.get?_push_size _ rfl,⟨rfl,rfl,rfl⟩,rfl,rfl,List.nodup_nil⟩
def z0B:TE:=fun _ H Q=>∀p,H p=none→Q (.ref p) (upd H p (.dK []))
def ziC:TE:=fun _ H Q=>∀p,H p=none→Q (.ref p) (upd H p (.dT []))
section
variable {X:Cx} {pos:Pos}
theorem zNo:PE X (.Dict [] [] pos) z0B:=fun pins s σ H Q I h=>
 wpAny_Dict_empty ⟨.ref s.heap.objs.size,_,I.laid (a:=s.heap.objs.size) (o:=.dK []) (t':=s.toks) (fun _ _ q=>Heap.get?_push_of_some _ q) (Nat.le_refl _) (zmz s.heap I.big),rfl,h _ (I.hok.fresh (Nat.le_refl _))⟩
theorem zYy:PE X (.Dict [] [] pos) ziC:=fun pins s σ H Q I h=>
 wpAny_Dict_empty ⟨.ref s.heap.objs.size,_,I.laid (a:=s.heap.objs.size) (o:=.dT []) (t':=s.toks) (fun _ _ q=>Heap.get?_push_of_some _ q) (Nat.le_refl _) (zgz s.heap I.big),rfl,h _ (I.hok.fresh (Nat.le_refl _))⟩
end
structure M1 (X:Cx) (o:Expr) (m:Str) (apos:Pos) (e:Expr) (cpos:Pos):Prop where
 base:attributeBase o m X.env (eval o X.env)=eval o X.env
 few:((backTo cpos (starEach [e] X.env)).all (fun x=>!x.1)&&(backToKw cpos (keywordEach [] X.env)).all (fun x=>x.1.isSome)
  &&decide (([e]:List Expr).length + ([]:List Keyword).length + (if ([]:List Keyword).isEmpty then 0 else 1) < 30))=true
 line:(apos.endLine==cpos.line)=true
 trees:backTo cpos (starEach [e] X.env)=[(false,eval e X.env)]
structure M2 (X:Cx) (o:Expr) (m:Str) (apos:Pos) (e f:Expr) (cpos:Pos):Prop where
 base:attributeBase o m X.env (eval o X.env)=eval o X.env
 few:((backTo cpos (starEach [e,f] X.env)).all (fun x=>!x.1)&&(backToKw cpos (keywordEach [] X.env)).all (fun x=>x.1.isSome)
  &&decide (([e,f]:List Expr).length + ([]:List Keyword).length + (if ([]:List Keyword).isEmpty then 0 else 1) < 30))=true
 line:(apos.endLine==cpos.line)=true
 trees:backTo cpos (starEach [e,f] X.env)=[(false,eval e X.env),(false,eval f X.env)]
def IsD (H:Hp) (a:Addr):Prop:=(∃kvs,Rd H a (.dK kvs))∨∃kvs,Rd H a (.dT kvs)
theorem zCt {X:Cx} {pins:List (Addr×Obj)} {σ:St} {H:Hp} {s:Shared} {a:Addr} (I:Inv X pins σ H s) (d:IsD H a):
  s.TypeIs (.ref a) "dict"∧(∀b,Value.ref a=.ref b→∃ob,s.heap.get? b=some ob∧ob.dict=none)∧(a==sysModules)=false:=by
 rcases d with ⟨kvs,e⟩|⟨kvs,e⟩
 ·obtain ⟨_,hd,vs,_,dd⟩:=zKi I.hok e
  refine ⟨dd.typeIs,fun b q=>?_,hd⟩
  cases q
  obtain ⟨ob,_,_,h1,h2,_⟩:=dd
  exact ⟨ob,h1,h2.2.1⟩
 ·obtain ⟨_,hd,xs,_,dd⟩:=zrk I.hok e
  refine ⟨dd.typeIs,fun b q=>?_,hd⟩
  cases q
  obtain ⟨ob,_,_,h1,h2,_⟩:=dd
  exact ⟨ob,h1,h2.2.1⟩
section
variable {X:Cx} {pins:List (Addr×Obj)} {σ:St} {H:Hp} {s:Shared} {a:Addr} {y d:V} {u r:Value} {o:Option V} {A:Around} {E:Value→Shared→Prop}
theorem zeB {Q:Value→Shared→Prop} (hu:A.units + 1 < cLine) (I:Inv X pins σ H s) (g:zpd H a y o) (ry:RelV y u) (h:∀w' s',Inv X pins σ H s'→RelV (o.getD .non) w'→Q w' s'):
  wpAny (model X.prog X.w) A (call (.builtin "dict.get") [.ref a,u]) Q E s:=by
 rcases g with ⟨kvs,k,e,ey,l⟩|⟨kvs,k,b,e,ey,eb,l⟩
 ·subst ey
  obtain ⟨z,hd,vs,rel,dd⟩:=zKi I.hok e
  refine call_meetsIn PySem.F.slot_dict_get dd.typeIs PySem.F.entry_dict_get (PySem.F.args_dict_get_2 _ _) (meets_dict_get (zsb X.prog X.w) a (zDh ry) hd) ⟨_,dd.mapOf,h _ _ (I.tok _) ?_⟩
  rw [l]
  exact (rel.val k).getD rfl
 ·subst ey
  cases (show u=Value.ref b from ry)
  obtain ⟨z,hd,xs,rel,dd⟩:=zrk I.hok e
  refine call_meetsIn PySem.F.slot_dict_get dd.typeIs PySem.F.entry_dict_get (PySem.F.args_dict_get_2 _ _) (meetsH_dict_get (tupleKind (zsb X.prog X.w)) a b hd) ⟨tupleKind_room_in1 hu,k,xs,zlk I.hok eb,dd,h _ _ (I.tok _) ?_⟩
  rw [l]
  exact (rel.val k).getD rfl
theorem zDB {Q:Value→Shared→Prop} (hu:A.units + 1 < cLine) (I:Inv X pins σ H s) (g:zpd H a y o) (ry:RelV y u) (rd:RelV d r) (h:∀w' s',Inv X pins σ H s'→RelV (o.getD d) w'→Q w' s'):
  wpAny (model X.prog X.w) A (call (.builtin "dict.get") [.ref a,u,r]) Q E s:=by
 rcases g with ⟨kvs,k,e,ey,l⟩|⟨kvs,k,b,e,ey,eb,l⟩
 ·subst ey
  obtain ⟨z,hd,vs,rel,dd⟩:=zKi I.hok e
  refine call_meetsIn PySem.F.slot_dict_get dd.typeIs PySem.F.entry_dict_get (PySem.F.args_dict_get_3 _ _ _) (meets_dict_get_default (zsb X.prog X.w) a (zDh ry) hd r) ⟨_,dd.mapOf,h _ _ (I.tok _) ?_⟩
  rw [l]
  exact (rel.val k).getD rd
 ·subst ey
  cases (show u=Value.ref b from ry)
  obtain ⟨z,hd,xs,rel,dd⟩:=zrk I.hok e
  refine call_meetsIn PySem.F.slot_dict_get dd.typeIs PySem.F.entry_dict_get (PySem.F.args_dict_get_3 _ _ _) (meetsH_dict_get_default (tupleKind (zsb X.prog X.w)) a b hd r) ⟨tupleKind_room_in1 hu,k,xs,zlk I.hok eb,dd,h _ _ (I.tok _) ?_⟩
  rw [l]
  exact (rel.val k).getD rd
end
def zpC (td ty:TE):TE:=fun σ H Q=>td σ H fun x H1=>∃a,x=.ref a∧IsD H1 a∧ty σ H1 fun y H2=>∃o,zpd H2 a y o∧Q (o.getD .non) H2
def zQB (td ty tx:TE):TE:=fun σ H Q=>td σ H fun x H1=>∃a,x=.ref a∧IsD H1 a∧ty σ H1 fun y H2=>tx σ H2 fun z H3=>∃o,zpd H3 a y o∧Q (o.getD z) H3
def zxB (td ty:TE):TE:=fun σ H Q=>td σ H fun x H1=>∃a,x=.ref a∧IsD H1 a∧ty σ H1 fun y H2=>∃kvs k v,H2 a=some (.dK kvs)∧y=kV k∧zLb kvs k=some v∧Q v (upd H2 a (.dK (zhe kvs k)))
section
variable {X:Cx} {o e f:Expr} {apos cpos:Pos} {td ty tx:TE}
theorem zbz (hu:X.A.units + 1 < cLine) (ho:PE X o td) (he:PE X e ty) (m:M1 X o "get" apos e cpos):PE X (.Call (.Attribute o "get" apos) [e] [] cpos) (zpC td ty):=by
 intro pins s σ H Q I h
 refine wpAny_Call_method m.base m.few m.line PySem.F.plainAttrs_dict PySem.F.slot_dict_get PySem.F.type_dict_get (thn (ho pins s σ H _ I h) fun u s1 ⟨x,H1,I1,rx,a,ex,d,q1⟩=>?_)
 subst ex
 obtain rfl:u=Value.ref a:=rx
 obtain ⟨t1,t2,_⟩:=zCt I1 d
 refine ⟨t1,t2,?_⟩
 rw [m.trees]
 refine Calls.callWith_builtin rfl (Calls.evalArgs_plain (Calls.spliced_cons (thn (he pins s1 σ H1 _ I1 q1) fun iv s2 ⟨y,H2,I2,ry,ov,g,q2⟩=>Calls.spliced_nil ?_)))
 exact zeB hu I2 g ry fun w' s3 I3 rw'=>⟨_,H2,I3,rw',q2⟩
theorem z3s (hu:X.A.units + 1 < cLine) (ho:PE X o td) (he:PE X e ty) (hf:PE X f tx) (m:M2 X o "get" apos e f cpos):PE X (.Call (.Attribute o "get" apos) [e,f] [] cpos) (zQB td ty tx):=by
 intro pins s σ H Q I h
 refine wpAny_Call_method m.base m.few m.line PySem.F.plainAttrs_dict PySem.F.slot_dict_get PySem.F.type_dict_get (thn (ho pins s σ H _ I h) fun u s1 ⟨x,H1,I1,rx,a,ex,d,q1⟩=>?_)
 subst ex
 obtain rfl:u=Value.ref a:=rx
 obtain ⟨t1,t2,_⟩:=zCt I1 d
 refine ⟨t1,t2,?_⟩
 rw [m.trees]
 refine Calls.callWith_builtin rfl (Calls.evalArgs_plain (Calls.spliced_cons (thn (he pins s1 σ H1 _ I1 q1) fun iv s2 ⟨y,H2,I2,ry,q2⟩=>
  Calls.spliced_cons (thn (hf pins s2 σ H2 _ I2 q2) fun fv s3 ⟨z,H3,I3,rz,ov,g,q3⟩=>Calls.spliced_nil ?_))))
 exact zDB hu I3 g ry rz fun w' s4 I4 rw'=>⟨_,H3,I4,rw',q3⟩
theorem zOy (ho:PE X o td) (he:PE X e ty) (m:M1 X o "pop" apos e cpos):PE X (.Call (.Attribute o "pop" apos) [e] [] cpos) (zxB td ty):=by
 intro pins s σ H Q I h
 refine wpAny_Call_method m.base m.few m.line PySem.F.plainAttrs_dict PySem.F.slot_dict_pop PySem.F.type_dict_pop (thn (ho pins s σ H _ I h) fun u s1 ⟨x,H1,I1,rx,a,ex,d,q1⟩=>?_)
 subst ex
 obtain rfl:u=Value.ref a:=rx
 obtain ⟨t1,t2,_⟩:=zCt I1 d
 refine ⟨t1,t2,?_⟩
 rw [m.trees]
 refine Calls.callWith_builtin rfl (Calls.evalArgs_plain (Calls.spliced_cons (thn (he pins s1 σ H1 _ I1 q1) fun iv s2 ⟨y,H2,I2,ry,kvs,k,v,ea,ey,l,q2⟩=>Calls.spliced_nil ?_)))
 subst ey
 exact zMC I2 ea ry l (.inl rfl) fun w' s3 I3 rw'=>⟨v,_,I3,rw',q2⟩
end
end L2
namespace L2
open PySem PySem.Spec PyProof.Rows
end L2
namespace L2
open PySem PySem.Spec PyProof.Rows
theorem z0q:bootBuiltins "reversed"=some (.type "reversed"):=by decide +kernel
section
variable {X:Cx} {pins:List (Addr×Obj)} {σ:St} {H:Hp} {s:Shared} {h':Heap}
theorem Inv.turnedL {t':Nat} {ch:List Addr} (I:Inv X pins σ H s) (k:∀b o,b∉ch→s.heap.get? b=some o→h'.get? b=some o) (hf:∀b∈ch,zah X pins H b):Inv X pins σ H { s with heap:=h',toks:=t' }:=by
 have nit:∀b u,H b=some u→b∉ch:=fun b u e z=>by
  have q:=(hf b z).1
  rw [q] at e;cases e
 refine I.step (g':=s.gens) (d':=s.drawn) (ch:=ch) (fun b hb=>⟨(hf b hb).2.2.2.1,(hf b hb).2.1,(hf b hb).2.2.2.2.1,(hf b hb).2.2.2.2.2⟩) (fun b o _ _ hc e _=>k b o hc e) (fun b o _ _ hc e _=>⟨o.slots,k b o hc e⟩)
  (fun _ _ _ _ n=>n) (fun b o hc e=>⟨o,k b o hc e⟩) (fun _ _ e=>e) (fun _ _ _ e=>e) (fun b ps e=>⟨#[],by rw [e];simp⟩) (fun m hm=>?_) (fun b u e=>?_) I.bare
 ·obtain ⟨o,es,ep,ho,r⟩:=hm
  exact ⟨o,es,ep,k _ o (fun z=>(hf _ z).2.1 rfl) ho,r⟩
 ·refine (I.hok b u e).stay (fun c v hc q=>k c v ?_ q) (fun _ q=>q) fun _ _ q=>q
  rcases hc with z|z
  ·rw [z];exact nit b u e
  ·exact nit c _ z
theorem Inv.turnedNew {t':Nat} {ch:List Addr} {T:Addr} {ob:HO} (I:Inv X pins σ H s) (k:∀b o,b∉ch→s.heap.get? b=some o→h'.get? b=some o) (hf:∀b∈ch,zah X pins H b) (hT:s.heap.objs.size≤T)
  (new:zzb X.prog X.w (upd H T ob) h' T ob):Inv X pins σ (upd H T ob) { s with heap:=h',toks:=t' }:=by
 have hn:H T=none:=I.hok.fresh hT
 have nit:∀b u,H b=some u→b∉ch:=fun b u e z=>by
  have q:=(hf b z).1
  rw [q] at e;cases e
 refine I.step (g':=s.gens) (d':=s.drawn) (ch:=ch) (fun b hb=>⟨(hf b hb).2.2.2.1,(hf b hb).2.1,(hf b hb).2.2.2.2.1,(hf b hb).2.2.2.2.2⟩) (fun b o _ _ hc e _=>k b o hc e) (fun b o _ _ hc e _=>⟨o.slots,k b o hc e⟩)
  (fun b o _ e n=>?_) (fun b o hc e=>⟨o,k b o hc e⟩) (fun b xs e=>?_) (fun b o u e=>?_) (fun b ps e=>⟨#[],?_⟩) (fun m hm=>?_) (fun b u e=>?_) I.bare
 ·rw [zi (Nat.ne_of_lt (Nat.lt_of_lt_of_le (Heap.lt_size e) hT))];exact n
 ·rw [zi (zk e hn)];exact e
 ·rw [zi (zk e hn)];exact e
 ·rw [zi (zk e hn),e];simp
 ·obtain ⟨o,es,ep,ho,r⟩:=hm
  exact ⟨o,es,ep,k _ o (fun z=>(hf _ z).2.1 rfl) ho,r⟩
 ·by_cases hb:b=T
  ·subst hb
   rw [zc] at e
   cases e
   exact new
  ·rw [zi hb] at e
   refine (I.hok b u e).stay (fun c v hc q=>k c v ?_ q) (fun c q=>by rw [zi (zk q hn)];exact q) fun c xs q=>by rw [zi (zk q hn)];exact q
   rcases hc with z|z
   ·rw [z];exact nit b u e
   ·exact nit c _ z
theorem Inv.lock {d:Addr} {u:HO} (I:Inv X pins σ H s) (h:H d=some u) (mu:Mut (some u)):∃od,Inv X pins σ (upd H d (.frz od u)) s:=by
 have x:=I.hok d u h
 have ex:∃od,s.heap.get? d=some od:=by
  cases u with
  |lst xs=>obtain ⟨_,_,_,_,e⟩:=x;exact ⟨_,e⟩
  |dK kvs=>obtain ⟨_,_,_,_,o,_,_,e,_⟩:=x;exact ⟨o,e⟩
  |dT kvs=>obtain ⟨_,_,_,_,o,_,_,e,_⟩:=x;exact ⟨o,e⟩
  |set S n=>obtain ⟨o,_,_,_,e,_⟩:=x;exact ⟨o,e⟩
  |ins C dx fs=>obtain ⟨_,_,_,e,_⟩:=x;exact ⟨_,e⟩
  |ext φ=>obtain ⟨_,⟨_,e⟩,_⟩:=x;exact ⟨_,e⟩
  |_=>exact False.elim mu
 obtain ⟨od,e⟩:=ex
 have new:zzb X.prog X.w (upd H d (.frz od u)) s.heap d (.frz od u):=by
  refine ⟨e,x.stay (fun b v _ q=>q) (fun b q=>?_) fun b xs q=>?_⟩
  ·rw [zi (fun z=>by rw [z,h] at q;cases q;exact mu)];exact q
  ·rw [zi (fun z=>by rw [z,h] at q;cases q;exact mu)];exact q
 exact ⟨od,I.write (x:=d) (e:=d) (t':=s.toks) (h':=s.heap) (by rw [h];exact mu) (.inl rfl) (fun b v _ q=>q) ⟨od,e⟩ new⟩
theorem Inv.nofrz {d:Addr} {u:HO} (I:Inv X pins σ H s) (h:H d=some u) (mu:Mut (some u)):∀o' u',X.H_0 d≠some (.frz o' u'):=fun o' u' e=>by
 have q:=I.base.frzs d o' u' e
 rw [h] at q
 cases q
 exact mu
theorem Inv.unlock {d:Addr} {od:Obj} {u:HO} (I:Inv X pins σ H s) (h:H d=some (.frz od u)) (hn:∀o' u',X.H_0 d≠some (.frz o' u')):Inv X pins σ (upd H d u) s:=by
 have neH:∀b o,H b=some o→(∀o' u',o≠.frz o' u')→b≠d:=fun b o e hne z=>by
  rw [z,h] at e
  cases e
  exact hne _ _ rfl
 have neN:∀b,H b=none→b≠d:=fun b e z=>by rw [z,h] at e;cases e
 refine ⟨I.ok,I.os,I.bare,⟨I.base.keep,I.base.slot,fun b o e n hx=>?_,I.base.there,fun b xs e=>?_,fun b o x e=>?_,fun b ps e=>?_⟩,I.loc,I.cell,?_,fun x c e=>?_,fun p hp=>?_,fun b o e=>?_,I.len⟩
 ·rw [zi (neN b (I.base.free b o e n hx))];exact I.base.free b o e n hx
 ·have q:=I.base.tups b xs e
  rw [zi (neH b _ q (fun _ _ z=>nomatch z))];exact q
 ·have q:=I.base.frzs b o x e
  rw [zi (fun z=>by rw [z] at e;exact hn _ _ e)];exact q
 ·obtain ⟨m,q⟩:=I.base.tbls b ps e
  exact ⟨m,by rw [zi (neH b _ q (fun _ _ z=>nomatch z))];exact q⟩
 ·rw [zi (neN _ I.free)];exact I.free
 ·rw [zi (neN c (I.freeC x c e))];exact I.freeC x c e
 ·obtain ⟨e,n,r⟩:=I.pin p hp
  exact ⟨e,by rw [zi (neN _ n)];exact n,r⟩
 ·by_cases hb:b=d
  ·rw [hb,zc] at e
   cases e
   rw [hb]
   obtain ⟨_,x⟩:=I.hok d _ h
   exact x.stay (fun c v _ q=>q) (fun c q=>by rw [zi (neH c _ q (fun _ _ z=>nomatch z))];exact q) fun c xs q=>by rw [zi (neH c _ q (fun _ _ z=>nomatch z))];exact q
  ·rw [zi hb] at e
   exact (I.hok b o e).stay (fun c v _ q=>q) (fun c q=>by rw [zi (neH c _ q (fun _ _ z=>nomatch z))];exact q) fun c xs q=>by rw [zi (neH c _ q (fun _ _ z=>nomatch z))];exact q
end
def zzC (t:TS):TS:=fun D σ H=>∃d u,H d=some u∧Mut (some u)∧∀od,t ⟨fun σ' H'=>H' d=some (.frz od u)∧D.nx σ' (upd H' d u),fun v H'=>H' d=some (.frz od u)∧D.rt v (upd H' d u),fun σ' H'=>H' d=some (.frz od u)∧D.bk σ' (upd H' d u),fun σ' H'=>H' d=some (.frz od u)∧D.ct σ' (upd H' d u)⟩ σ (upd H d (.frz od u))
section
variable {X:Cx}
theorem zGv {st:Stmt} {t:TS} (h:PS X st t):PS X st (zzC t):=by
 intro pins s σ H D I hw
 obtain ⟨d,u,hd,mu,hw⟩:=hw
 obtain ⟨od,I1⟩:=I.lock hd mu
 refine thn (h pins s σ _ _ I1 (hw od)) fun f s1 q=>?_
 cases f with
 |next=>obtain ⟨σ',H',I2,e,q⟩:=q;exact ⟨σ',_,I2.unlock e (I.nofrz hd mu),q⟩
 |brk=>obtain ⟨σ',H',I2,e,q⟩:=q;exact ⟨σ',_,I2.unlock e (I.nofrz hd mu),q⟩
 |cont=>obtain ⟨σ',H',I2,e,q⟩:=q;exact ⟨σ',_,I2.unlock e (I.nofrz hd mu),q⟩
 |ret v=>obtain ⟨x,σ',H',I2,r,e,q⟩:=q;exact ⟨x,σ',_,I2.unlock e (I.nofrz hd mu),r,q⟩
theorem zju {tg:Expr} {pins:List (Addr×Obj)} {σ:St} {H:Hp} {s:Shared} {R:It→Hp→Prop} {J:It} {tn:Nat→Heap→Prop} {tk:Nat} (I:Inv X pins σ H s) (o:Obj)
  (T:Turn X.prog X.w X.K tg J [s.heap.objs.size] s.heap.objs.size tn) (st:tn 0 (s.heap.push o)) (q:R J H):PIE X pins σ tg R (.ref s.heap.objs.size) { s with heap:=s.heap.push o,toks:=tk }:=by
 refine ⟨s.heap.objs.size,[s.heap.objs.size],tn,J,H,rfl,I.kept fun b ob e=>Heap.get?_push_of_some _ e,T,st,fun b hb=>?_,q⟩
 have e:b=s.heap.objs.size:=by simpa using hb
 subst e
 exact I.fpOk (Nat.le_refl _) (I.hok.fresh (Nat.le_refl _))
end
def Itv (K:PySem.W.Frag) (a:Addr) (n:Nat):It:=
 ⟨fun i H=>i < n∧∃(xs:List V) (x:V),SqL K H a xs∧xs[n - 1 - i]?=some x,fun i H x H'=>H'=H∧∀xs,SqL K H a xs→xs[n - 1 - i]?=some x,fun i _=>n≤i⟩
theorem zUz {P:Program} {w:World} {K:PySem.W.Frag} {tg:Expr} (a it:Addr) (n:Nat):Turn P w K tg (Itv K a n) [it] it (fun i h=>i≤n∧h.IsRevIter it a ((n:Int) - 1 - (i:Nat))) where
 mem:=by simp
 obj:=fun i h st b hb=>by
  have e:b=it:=by simpa using hb
  subst e
  obtain ⟨_,o,e,c,d⟩:=st
  exact ⟨o,e,fun v z=>by rw [d] at z;cases z⟩
 keep:=fun i h h' st k=>⟨st.1,st.2.at fun o e=>k it (by simp) o e⟩
 item:=by
  intro X hP hw hK hc i pins s σ H E I hf st hg
  subst hP hw hK
  obtain ⟨hin,xs,x,hq,hx⟩:=hg
  obtain ⟨its,rv,p,hz⟩:=I.list hq
  obtain ⟨u,hu,ru⟩:=rv.get hx
  obtain ⟨f0,f1,f2,f3,f4,f5⟩:=hf it (by simp)
  obtain ⟨_,hit⟩:=st
  have e1:(n:Int) - 1 - ((i:Nat):Int)=((n - 1 - i:Nat):Int):=by omega
  rw [e1] at hit
  refine wpAny_pyNext_rev_item hit p.isList (x:=u) (by simpa using hu) fun h' st' sb=>?_
  have e2:((n - 1 - i:Nat):Int) - 1=(n:Int) - 1 - ((i + 1:Nat):Int):=by omega
  rw [e2] at st'
  have I1:Inv X pins σ H { s with heap:=h' }:=I.turned (t':=s.toks) (fun b o hb e=>(sb.2 b hb).trans e) f0 f1 f3 f4 f5
  obtain ⟨o,e,c,d⟩:=id st'
  exact ⟨u,rfl,zdp (s:={ s with heap:=h' }) e c d (by decide) ⟨x,H,I1,ru,⟨rfl,fun ys hy=>by rw [I.list_inj hy hq];exact hx⟩,⟨hin,st'⟩,fun b hb=>(hf b hb).1⟩⟩
 done:=by
  intro X hP hw hK hc i pins s σ H E I hf st hg
  subst hP hw hK
  obtain ⟨f0,f1,f2,f3,f4,f5⟩:=hf it (by simp)
  obtain ⟨hin,hit⟩:=st
  have hge:n≤i:=hg
  have e1:(n:Int) - 1 - ((i:Nat):Int)=-1:=by omega
  rw [e1] at hit
  exact wpAny_pyNext_rev_end (I.ok.hd hc) hit fun h' eb=>⟨rfl,I.turned (t':=s.toks) (fun b o hb e=>eb b o hb e) f0 f1 f3 f4 f5⟩
 self:=fun A i s Q E st h=>wpAny_pyIter_revIter st.2 h
def zSC (K:PySem.W.Frag) (ta:TA):TI:=fun σ H R=>ta σ H fun vs H1=>∃(a:Addr) (xs:List V),vs=[.ref a]∧SqL K H1 a xs∧R (Itv K a xs.length) H1
section
variable {X:Cx} {tg:Expr}
theorem zSu {e:Expr} {ta:TA} {p pos:Pos} (hg:Gl X "reversed") (hm:X.mg "reversed"=none) (ha:PA X [e] ta) (hs:starEach [e] X.env=[(false,eval e X.env)]:=by rfl):PI X tg (.Call (.Name "reversed" p) [e] [] pos) (zSC X.K ta):=by
 intro pins s σ H R I h
 refine Call_ (zRg I hg hm z0q (PyProof.Rows.callWith_type1 (thn (ha pos pins s σ H _ I h) fun us s1 ⟨vs,H1,I1,r1,q1⟩=>?_) hs rfl))
 obtain ⟨a,xs,e,hq,q⟩:=q1
 subst e
 cases r1 with
 |cons r rr=>
  cases rr
  cases r
  obtain ⟨its,rv,p',hz⟩:=I1.list hq
  have hl:=rv.length
  have e1:((its.toArray.size:Nat):Int) - 1=(xs.length:Int) - 1 - ((0:Nat):Int):=by simp only [List.size_toArray];omega
  refine call_reversed_list p'.isList (wpAny_pyIter_revIter (l:=a) (i:=((its.toArray.size:Nat):Int) - 1) ⟨_,Heap.get?_push_size _ rfl,rfl,rfl⟩ ?_)
  refine zju (tk:=s1.toks) I1 _ (zUz a _ xs.length) ⟨Nat.zero_le _,?_⟩ q
  rw [←e1]
  exact ⟨_,Heap.get?_push_size _ rfl,rfl,rfl⟩
end
section
variable {prog:Program} {w:World} {A:Around} {E:Value→Shared→Prop} {s:Shared}
theorem zXr {d:Addr} {o:Obj} {es:Array DictEntry} {ep:Nat} {Q:Value→Shared→Prop} (hd:(d==sysModules)=false) (ho:s.heap.get? d=some o) (hc:o.ExactDict) (hdat:o.data=.dict es ep)
  (hQ:Q (.ref s.heap.objs.size) { s with heap:=s.heap.push { cls:=.type "dict_keyiterator",data:=.fields #[.ref d,.int 0 0,.int es.size 0,.int ep 0] } }):
  wpAny (model prog w) A (pyIter (.ref d)) Q E s:=by
 have hT:s.TypeIs (.ref d) "dict":=⟨o,ho,hc.1⟩
 refine wpAny_pyIter_slot hT F.slot_dict_iter (wpAny_call_entry F.slot_dict_iter hT F.entry_dict_iter ?_ (F.args_dict_iter_1 _))
 unfold Builtin.«dict.__iter__»
 refine wpAny_bind ?_
 unfold Builtin.Dict.dictSlotNone
 refine wpAny_bind (wpAny_notOrdered_dict hT ?_)
 show wpAny _ _ (pure (Value.ref d)) _ _ s
 refine wpAny_pure ?_
 show wpAny _ _ (Builtin.Dict.showsAll d >>= _) _ _ s
 unfold Builtin.Dict.showsAll
 rw [if_neg (by rw [hd];exact Bool.false_ne_true)]
 refine wpAny_bind (wpAny_pure ?_)
 refine wpAny_bind (wpAny_dictEntries ho hdat ?_)
 refine wpAny_bind (wpAny_dictEpoch ho hdat ?_)
 refine wpAny_bind (wpAny_newObj_type (wpAny_pure ⟨_,rfl,"dict_keyiterator",_,⟨_,Heap.get?_push_size _ rfl,rfl⟩,F.slot_dict_keyiterator_next.lookup,?_⟩))
 simpa [rawInt] using hQ
theorem zxs {it d:Addr} {i n ep:Nat} {od:Obj} {es:Array DictEntry} {en:DictEntry} {Q:Option Value→Shared→Prop} (hit:s.heap.IsKeyIter it d i n ep) (hod:s.heap.get? d=some od) (hdd:od.data=.dict es ep)
  (hsz:es.size=n) (hx:es[i]?=some en) (hQ:∀h',h'.IsKeyIter it d (i + 1) n ep→Heap.SameBut it s.heap h'→Q (some en.key) { s with heap:=h' }):wpAny (model prog w) A (pyNext (.ref it)) Q E s:=by
 obtain ⟨o,ho,hc,hd⟩:=id hit
 unfold pyNext
 refine wpAny_bind (wpAny_attempt (wpAny_callSpecial?_slot (name:=Str.ofString "__next__") hit.typeIs F.slot_dict_keyiterator_next
  (wpAny_call_entry F.slot_dict_keyiterator_next hit.typeIs F.entry_dict_keyiterator_next ?_ (F.args_dict_keyiterator_next_1 _))))
 refine wpAny_bind (wpAny_pure ?_)
 refine wpAny_bind ?_
 refine wpAny_bind ?_
 first|refine wpAny_bind (wpAny_typeNameOfWhole_keyiter hit.typeIs (wpAny_pure ?_))|refine wpAny_bind (wpAny_typeNameOf_keyiter hit.typeIs (wpAny_pure ?_))
 refine wpAny_bind (wpAny_fieldsOf ho hd ?_)
 have hown:Builtin.Dict_items.ownsTuple "dict_keyiterator"=false:=by decide
 simp only [hown,Bool.false_eq_true,if_false]
 show wpAny _ _ (if (Value.ref d==Value.none)=true then _ else _) _ _ s
 rw [if_neg (show ¬((Value.ref d==Value.none)=true) from Bool.false_ne_true)]
 refine wpAny_bind (wpAny_pure ?_)
 refine wpAny_bind (wpAny_dictEntries hod hdd ?_)
 rw [if_neg (by rw [hsz];simp)]
 refine wpAny_bind (wpAny_pure ?_)
 refine wpAny_bind (wpAny_dictEpoch hod hdd ?_)
 rw [if_neg (by simp)]
 refine wpAny_pure ?_
 obtain ⟨hlt',hen⟩:=Array.getElem?_eq_some_iff.mp hx
 simp only [show ¬((i:Int) < 0) from by omega,if_false,Int.toNat_natCast,Array.getElem?_eq_getElem hlt']
 refine wpAny_bind ?_
 first|refine wpAny_bind (wpAny_typeNameOfWhole_keyiter hit.typeIs (wpAny_pure ?_))|refine wpAny_bind (wpAny_typeNameOf_keyiter hit.typeIs (wpAny_pure ?_))
 refine wpAny_bind (wpAny_isOneOf_keyiter hit.typeIs ?_)
 show wpAny _ _ (setField (.ref it) 1 (rawInt ((i:Int) + 1)) >>= _) _ _ s
 refine wpAny_bind (wpAny_setField ho hd (by simp) ?_)
 have hit':(s.heap.update it (Obj.mapFields (·.setIfInBounds 1 (rawInt ((i:Int) + 1))))).IsKeyIter it d (i + 1) n ep:=
  ⟨_,Heap.get?_update_self _ ho (Obj.isFreed_of_fields (Obj.data_mapFields hd _)),(Obj.cls_mapFields ..).trans hc,by rw [Obj.data_mapFields hd];simp [rawInt]⟩
 refine wpAny_bind (wpAny_holding ?_)
 refine wpAny_bind (wpAny_isOneOf_keyiter (s:={ s with heap:=s.heap.update it (Obj.mapFields (·.setIfInBounds 1 (rawInt ((i:Int) + 1)))) }) hit'.typeIs ?_)
 show wpAny _ _ (pure es[i].key) _ _ _
 rw [hen]
 exact wpAny_pure (wpAny_pure ⟨_,rfl,wpAny_pure (hQ _ hit' (Heap.SameBut.update ..))⟩)
theorem zZm {it d:Addr} {i n ep:Nat} {od:Obj} {es:Array DictEntry} {Q:Option Value→Shared→Prop} (hh:A.handled=none) (hit:s.heap.IsKeyIter it d i n ep) (hod:s.heap.get? d=some od) (hdd:od.data=.dict es ep)
  (hsz:es.size=n) (hge:n≤i) (hQ:∀h',Heap.ExtBut it s.heap h'→Q none { s with heap:=h' }):wpAny (model prog w) A (pyNext (.ref it)) Q E s:=by
 obtain ⟨o,ho,hc,hd⟩:=id hit
 unfold pyNext
 refine wpAny_bind (wpAny_attempt (wpAny_callSpecial?_slot (name:=Str.ofString "__next__") hit.typeIs F.slot_dict_keyiterator_next
  (wpAny_call_entry F.slot_dict_keyiterator_next hit.typeIs F.entry_dict_keyiterator_next ?_ (F.args_dict_keyiterator_next_1 _))))
 refine wpAny_bind (wpAny_pure ?_)
 refine wpAny_bind ?_
 refine wpAny_bind ?_
 first|refine wpAny_bind (wpAny_typeNameOfWhole_keyiter hit.typeIs (wpAny_pure ?_))|refine wpAny_bind (wpAny_typeNameOf_keyiter hit.typeIs (wpAny_pure ?_))
 refine wpAny_bind (wpAny_fieldsOf ho hd ?_)
 have hown:Builtin.Dict_items.ownsTuple "dict_keyiterator"=false:=by decide
 simp only [hown,Bool.false_eq_true,if_false]
 show wpAny _ _ (if (Value.ref d==Value.none)=true then _ else _) _ _ s
 rw [if_neg (show ¬((Value.ref d==Value.none)=true) from Bool.false_ne_true)]
 refine wpAny_bind (wpAny_pure ?_)
 refine wpAny_bind (wpAny_dictEntries hod hdd ?_)
 rw [if_neg (by rw [hsz];simp)]
 refine wpAny_bind (wpAny_pure ?_)
 refine wpAny_bind (wpAny_dictEpoch hod hdd ?_)
 rw [if_neg (by simp)]
 refine wpAny_pure ?_
 have hge':es.size≤i:=by rw [hsz];exact hge
 simp only [show ¬((i:Int) < 0) from by omega,if_false,Int.toNat_natCast,Array.getElem?_eq_none hge']
 refine wpAny_bind ?_
 first|refine wpAny_bind (wpAny_typeNameOfWhole_keyiter hit.typeIs (wpAny_pure ?_))|refine wpAny_bind (wpAny_typeNameOf_keyiter hit.typeIs (wpAny_pure ?_))
 show wpAny _ _ (setField (.ref it) 0 .none >>= _) _ _ s
 refine wpAny_bind (wpAny_setField ho hd (by simp) ?_)
 show wpAny _ _ (newExc (.type "StopIteration") [] >>= _) _ _ _
 refine wpAny_bind ?_
 simp only [newExc,newTuple]
 refine wpAny_bind (wpAny_newObj_type ?_ (by size_fits))
 refine wpAny_bind (m:=firstArgMember _ _) (wpAny_of_eq (a:=Value.none) (by first|rfl|(simp only [firstArgMember];rfl)) ?_)
 refine wpAny_newObj_type ?_ (by size_fits)
 simp only [raiseNew]
 refine wpAny_bind (wpAny_handled ?_)
 rw [show A.in1.handled=none from hh]
 refine wpAny_bind (wpAny_pure (wpAny_throw ?_))
 refine wpAny_bind (wpAny_isInstance (T:="StopIteration") (b:=true) ⟨_,Heap.get?_push_size _ rfl,rfl⟩ isSubtype_stop ?_)
 exact wpAny_pure (hQ _ (((Heap.SameBut.update ..).extBut.push _).push _))
end
theorem zgC {κ:Type} {kvs:List (κ×V)} {vs:List (κ×Value)} (h:KV kvs vs):∀{i:Nat} {k:κ} {v:V},kvs[i]?=some (k,v)→∃u,vs[i]?=some (k,u)∧RelV v u:=by
 unfold KV at h
 induction h with
 |nil=>intro i k v e;simp at e
 |@cons a b l₁ l₂ r t ih=>
  intro i k v e
  cases i with
  |zero=>
   simp only [List.getElem?_cons_zero,Option.some.injEq] at e
   subst e
   refine ⟨b.2,?_,r.2⟩
   simp only [List.getElem?_cons_zero]
   exact congrArg some (Prod.ext r.1.symm rfl)
  |succ j=>
   simp only [List.getElem?_cons_succ] at e ⊢
   exact ih e
theorem zop {α β:Type} {G:α→β→Prop} {l₁:List α} {l₂:List β} (h:Paired G l₁ l₂):∀{i:Nat} {a:α},l₁[i]?=some a→∃b,l₂[i]?=some b∧G a b:=by
 induction h with
 |nil=>intro i a e;simp at e
 |@cons a b l₁ l₂ r t ih=>
  intro i a' e
  cases i with
  |zero=>
   simp only [List.getElem?_cons_zero,Option.some.injEq] at e
   subst e
   exact ⟨b,rfl,r⟩
  |succ j=>
   simp only [List.getElem?_cons_succ] at e ⊢
   exact ih e
theorem z2y {k:Key} {u:Value} (h:zKg k u=true):RelV (kV k) u:=by
 rcases zac h with ⟨i,t,rfl,rfl⟩|⟨x,t,rfl,rfl⟩
 ·exact ⟨t,rfl⟩
 ·exact ⟨t,rfl⟩
section
variable {X:Cx} {pins:List (Addr×Obj)} {σ:St} {H:Hp} {s:Shared} {d:Addr} {o:Obj}
theorem Inv.frzK {kvs:List (Key×V)} (I:Inv X pins σ H s) (h:H d=some (.frz o (.dK kvs))):
  (d==sysModules)=false∧s.heap.get? d=some o∧o.ExactDict∧∃(es:Array DictEntry) (ep:Nat) (vs:List (Key×Value)),o.data=.dict es ep∧es.size=kvs.length∧KV kvs vs∧s.heap.DictAt (zsb X.prog X.w) d vs ep:=by
 obtain ⟨hd,z,hs,vs,kv,o',es,ep,ho,hx,hdt,r⟩:=I.hok d _ h
 rw [hd] at ho
 cases ho
 refine ⟨hs,hd,hx,es,ep,vs,hdt,?_,kv,o,es,hd,hx,hdt,r⟩
 have l1:=r.2.1.length
 have l2:kvs.length=vs.length:=Paired.length kv
 rw [Array.length_toList] at l1
 omega
theorem Inv.frzT {kvs:List (List Key×V)} (I:Inv X pins σ H s) (h:H d=some (.frz o (.dT kvs))):
  (d==sysModules)=false∧s.heap.get? d=some o∧o.ExactDict∧∃(es:Array DictEntry) (ep:Nat),o.data=.dict es ep∧es.size=kvs.length∧
   ∀(i:Nat) (k:List Key) (v:V),kvs[i]?=some (k,v)→∃(en:DictEntry) (q:Addr),es[i]?=some en∧en.key=.ref q∧H q=some (.tup (k.map kV)):=by
 obtain ⟨hd,z,hs,xs,pr,o',es,ep,ho,hx,hdt,he,_⟩:=I.hok d _ h
 rw [hd] at ho
 cases ho
 refine ⟨hs,hd,hx,es,ep,hdt,?_,fun i k v e=>?_⟩
 ·have l1:es.size=xs.length:=size_of_entries he
  have l2:kvs.length=xs.length:=Paired.length pr
  omega
 ·obtain ⟨b,hb,e1,e2,_⟩:=zop pr e
  have q:=entry_at he i
  rw [hb] at q
  exact ⟨_,b.2.1,q,rfl,e2⟩
end
def Itk (d:Addr) (o:Obj) (kvs:List (Key×V)):It:=
 ⟨fun i H=>H d=some (.frz o (.dK kvs))∧i < kvs.length,fun i H x H'=>H'=H∧∃k v,kvs[i]?=some (k,v)∧x=kV k,fun i H=>H d=some (.frz o (.dK kvs))∧kvs.length≤i⟩
def zTt (d:Addr) (o:Obj) (kvs:List (List Key×V)):It:=
 ⟨fun i H=>H d=some (.frz o (.dT kvs))∧i < kvs.length,fun i H x H'=>H'=H∧∃(k:List Key) (v:V) (q:Addr),kvs[i]?=some (k,v)∧x=.ref q∧H q=some (.tup (k.map kV)),fun i H=>H d=some (.frz o (.dT kvs))∧kvs.length≤i⟩
theorem zan {o:Obj} {es es':Array DictEntry} {ep ep':Nat} (h:o.data=.dict es ep) (h':o.data=.dict es' ep'):es'=es∧ep'=ep:=by
 rw [h] at h'
 cases h'
 exact ⟨rfl,rfl⟩
section
variable {P:Program} {w:World} {K:PySem.W.Frag} {tg:Expr} {d:Addr} {o:Obj} {es:Array DictEntry} {ep:Nat}
theorem zmx {kvs:List (Key×V)} (it:Addr) (hod:o.data=.dict es ep):Turn P w K tg (Itk d o kvs) [it] it (fun i h=>h.IsKeyIter it d i kvs.length ep) where
 mem:=by simp
 obj:=fun i h st b hb=>by
  have e:b=it:=by simpa using hb
  subst e
  obtain ⟨oi,e,c,dd⟩:=st
  exact ⟨oi,e,fun v z=>by rw [dd] at z;cases z⟩
 keep:=fun i h h' st k=>st.at fun oi e=>k it (by simp) oi e
 item:=by
  intro X hP hw hK hc i pins s σ H E I hf st hg
  subst hP hw hK
  obtain ⟨hd,hi⟩:=hg
  obtain ⟨f0,f1,f2,f3,f4,f5⟩:=hf it (by simp)
  obtain ⟨hs,hgd,hx,es',ep',vs,hdt,hsz,kv,hm⟩:=I.frzK hd
  obtain ⟨rfl,rfl⟩:=zan hod hdt
  obtain ⟨⟨k,v⟩,hkv⟩:∃p,kvs[i]?=some p:=⟨kvs[i],List.getElem?_eq_getElem hi⟩
  obtain ⟨u,hu,ru⟩:=zgC kv hkv
  have hl:kvs.length=vs.length:=Paired.length kv
  rw [hl] at st
  refine wpAny_pyNext_dict_item st hm hu fun key h' hkey st' sb=>?_
  have I1:Inv X pins σ H { s with heap:=h' }:=I.turned (t':=s.toks) (fun b ob hb e=>(sb.2 b hb).trans e) f0 f1 f3 f4 f5
  obtain ⟨oi,e,c,dd⟩:=id st'
  refine ⟨key,rfl,zdp (s:={ s with heap:=h' }) e c dd (by decide) ⟨kV k,H,I1,z2y (show zKg k key=true from hkey),⟨rfl,k,v,hkv,rfl⟩,?_,fun b hb=>(hf b hb).1⟩⟩
  show h'.IsKeyIter it d (i + 1) kvs.length _
  rw [hl]
  exact st'
 done:=by
  intro X hP hw hK hc i pins s σ H E I hf st hg
  subst hP hw hK
  obtain ⟨hd,hi⟩:=hg
  obtain ⟨f0,f1,f2,f3,f4,f5⟩:=hf it (by simp)
  obtain ⟨hs,hgd,hx,es',ep',vs,hdt,hsz,kv,hm⟩:=I.frzK hd
  obtain ⟨rfl,rfl⟩:=zan hod hdt
  exact zZm (I.ok.hd hc) st hgd hdt hsz hi fun h' eb=>⟨rfl,I.turned (t':=s.toks) (fun b ob hb e=>eb b ob hb e) f0 f1 f3 f4 f5⟩
 self:=fun A i s Q E st h=>wpAny_pyIter_keyiter st h
theorem zPw {kvs:List (List Key×V)} (it:Addr) (hod:o.data=.dict es ep):Turn P w K tg (zTt d o kvs) [it] it (fun i h=>h.IsKeyIter it d i kvs.length ep) where
 mem:=by simp
 obj:=fun i h st b hb=>by
  have e:b=it:=by simpa using hb
  subst e
  obtain ⟨oi,e,c,dd⟩:=st
  exact ⟨oi,e,fun v z=>by rw [dd] at z;cases z⟩
 keep:=fun i h h' st k=>st.at fun oi e=>k it (by simp) oi e
 item:=by
  intro X hP hw hK hc i pins s σ H E I hf st hg
  subst hP hw hK
  obtain ⟨hd,hi⟩:=hg
  obtain ⟨f0,f1,f2,f3,f4,f5⟩:=hf it (by simp)
  obtain ⟨hs,hgd,hx,es',ep',hdt,hsz,ent⟩:=I.frzT hd
  obtain ⟨rfl,rfl⟩:=zan hod hdt
  obtain ⟨⟨k,v⟩,hkv⟩:∃p,kvs[i]?=some p:=⟨kvs[i],List.getElem?_eq_getElem hi⟩
  obtain ⟨en,q,hen,hkey,hq⟩:=ent i k v hkv
  refine zxs st hgd hdt hsz hen fun h' st' sb=>?_
  have I1:Inv X pins σ H { s with heap:=h' }:=I.turned (t':=s.toks) (fun b ob hb e=>(sb.2 b hb).trans e) f0 f1 f3 f4 f5
  obtain ⟨oi,e,c,dd⟩:=id st'
  exact ⟨en.key,rfl,zdp (s:={ s with heap:=h' }) e c dd (by decide) ⟨.ref q,H,I1,hkey,⟨rfl,k,v,q,hkv,rfl,hq⟩,st',fun b hb=>(hf b hb).1⟩⟩
 done:=by
  intro X hP hw hK hc i pins s σ H E I hf st hg
  subst hP hw hK
  obtain ⟨hd,hi⟩:=hg
  obtain ⟨f0,f1,f2,f3,f4,f5⟩:=hf it (by simp)
  obtain ⟨hs,hgd,hx,es',ep',hdt,hsz,ent⟩:=I.frzT hd
  obtain ⟨rfl,rfl⟩:=zan hod hdt
  exact zZm (I.ok.hd hc) st hgd hdt hsz hi fun h' eb=>⟨rfl,I.turned (t':=s.toks) (fun b ob hb e=>eb b ob hb e) f0 f1 f3 f4 f5⟩
 self:=fun A i s Q E st h=>by
  refine wpAny_pyIter_slot st.typeIs F.slot_dict_keyiterator_iter (wpAny_call_entry F.slot_dict_keyiterator_iter st.typeIs F.entry_dict_keyiterator_iter ?_ (F.args_dict_keyiterator_iter_1 _))
  show wpAny _ _ (ret (.ref it)) _ _ s
  exact wpAny_pure ⟨_,rfl,"dict_keyiterator",_,st.typeIs,F.slot_dict_keyiterator_next.lookup,h⟩
end
def zEC (td:TE):TI:=fun σ H R=>td σ H fun x H1=>∃d o,x=.ref d∧((∃kvs,H1 d=some (.frz o (.dK kvs))∧R (Itk d o kvs) H1)∨∃kvs,H1 d=some (.frz o (.dT kvs))∧R (zTt d o kvs) H1)
section
variable {X:Cx} {tg e:Expr} {td:TE} {apos cpos:Pos}
theorem z4A (he:PE X e td):PI X tg e (zEC td):=by
 intro pins s σ H R I h
 refine thn (he pins s σ H _ I h) fun u s1 ⟨x,H1,I1,rx,d,o,ex,q⟩=>?_
 subst ex
 obtain rfl:u=Value.ref d:=rx
 rcases q with ⟨kvs,hd,q⟩|⟨kvs,hd,q⟩
 ·obtain ⟨hs,hgd,hx,es,ep,vs,hdt,hsz,kv,hm⟩:=I1.frzK hd
  refine zXr hs hgd hx hdt (zju (tk:=s1.toks) I1 _ (zmx _ hdt) ⟨_,Heap.get?_push_size _ rfl,rfl,?_⟩ q)
  rw [hsz]<;>rfl
 ·obtain ⟨hs,hgd,hx,es,ep,hdt,hsz,ent⟩:=I1.frzT hd
  refine zXr hs hgd hx hdt (zju (tk:=s1.toks) I1 _ (zPw _ hdt) ⟨_,Heap.get?_push_size _ rfl,rfl,?_⟩ q)
  rw [hsz]<;>rfl
end
theorem zQr:bootBuiltins "zip"=some (.type "zip"):=by decide +kernel
def Itz (K:PySem.W.Frag) (a b:Addr):It:=
 ⟨fun i H=>∃(xs ys:List V) (x y:V),SqL K H a xs∧SqL K H b ys∧xs[i]?=some x∧ys[i]?=some y,
  fun i H v H'=>∃T x y,v=.ref T∧H T=none∧H'=upd H T (.tup [x,y])∧(∀xs,SqL K H a xs→xs[i]?=some x)∧∀ys,SqL K H b ys→ys[i]?=some y,
  fun i H=>∃xs ys:List V,SqL K H a xs∧SqL K H b ys∧(xs.length≤i∨ys.length≤i)⟩
theorem zez {P:Program} {w:World} {K:PySem.W.Frag} {elts:List Expr} {kk:Nat} {tpos:Pos} {a b z TI TO i1 i2:Addr} (D:ZipApart z TI TO i1 i2 a b):
  Turn P w K (.Tuple elts kk tpos) (Itz K a b) [z,TI,TO,i1,i2] z (fun i h=>IsZip h z TI TO .none∧IsPair h TI (.ref i1) (.ref i2)∧(∃x y,IsPair h TO x y)∧h.IsListIter i1 a i∧h.IsListIter i2 b i) where
 mem:=by simp
 obj:=fun i h st c hc=>by
  obtain ⟨hz,hTI,⟨x,y,hTO⟩,⟨o1,e1,_,d1⟩,⟨o2,e2,_,d2⟩⟩:=st
  have e':c=z∨c=TI∨c=TO∨c=i1∨c=i2:=by simpa using hc
  rcases e' with q|q|q|q|q
  ·rw [q];exact ⟨_,hz,fun v q=>nomatch q⟩
  ·rw [q];exact ⟨_,hTI,fun v q=>nomatch q⟩
  ·rw [q];exact ⟨_,hTO,fun v q=>nomatch q⟩
  ·rw [q];exact ⟨o1,e1,fun v q=>by rw [d1] at q;cases q⟩
  ·rw [q];exact ⟨o2,e2,fun v q=>by rw [d2] at q;cases q⟩
 keep:=fun i h h' st k=>by
  obtain ⟨hz,hTI,⟨x,y,hTO⟩,h1,h2⟩:=st
  exact ⟨k z (by simp) _ hz,k TI (by simp) _ hTI,⟨x,y,k TO (by simp) _ hTO⟩,h1.at fun o q=>k i1 (by simp) o q,h2.at fun o q=>k i2 (by simp) o q⟩
 item:=by
  intro X hP hw hK hc i pins s σ H E I hf st hg
  subst hP hw hK
  obtain ⟨hz,hTI,⟨x0,y0,hTO⟩,h1,h2⟩:=st
  obtain ⟨xs,ys,x,y,hqx,hqy,hx,hy⟩:=hg
  obtain ⟨its,rv,p,_⟩:=I.list hqx
  obtain ⟨its2,rv2,p2,_⟩:=I.list hqy
  obtain ⟨u,hu,ru⟩:=rv.get hx
  obtain ⟨u2,hu2,ru2⟩:=rv2.get hy
  have hzl:z < s.heap.objs.size:=Heap.lt_size hz
  refine wpAny_pyNext_zip_item D hz hTI hTO h1 h2 p.isList p2.isList (x:=u) (y:=u2) (by simpa using hu) (by simpa using hu2) fun h' z' TO' h1' h2' hT hsz hk=>?_
  refine ⟨_,rfl,wpAny_letOwnedTupleGo_zip (s:={ s with heap:=h' }) z' fun h'' z'' sb=>?_⟩
  have hT2:h''.get? s.heap.objs.size=some { cls:=.type "tuple",data:=.seq #[u,u2] }:=(sb.2 _ (Nat.ne_of_gt hzl)).trans hT
  have new:zzb X.prog X.w (upd H s.heap.objs.size (.tup [x,y])) h'' s.heap.objs.size (.tup [x,y]):=
   ⟨by show 2≤sizeLine;decide,[u,u2],.cons ru (.cons ru2 .nil),⟨_,hT2,rfl,_,rfl⟩⟩
  have I1:Inv X pins σ (upd H s.heap.objs.size (.tup [x,y])) { s with heap:=h'' }:=
   I.turnedNew (t':=s.toks) (ch:=[z,TI,TO,i1,i2]) (fun c o hb q=>(sb.2 c (fun q'=>hb (by simp [q']))).trans (hk c o (fun q'=>hb (by simp [q'])) (fun q'=>hb (by simp [q'])) (fun q'=>hb (by simp [q'])) (fun q'=>hb (by simp [q'])) q)) hf (Nat.le_refl _) new
  refine ⟨.ref s.heap.objs.size,_,I1,rfl,⟨_,x,y,rfl,I.hok.fresh (Nat.le_refl _),rfl,fun l hl=>by rw [I.list_inj hl hqx];exact hx,fun l hl=>by rw [I.list_inj hl hqy];exact hy⟩,⟨z'',?_,⟨u,u2,?_⟩,?_,?_⟩,fun c hcm=>?_⟩
  ·exact (sb.2 _ D.TIz).trans (hk _ _ D.TIz D.TITO D.TIi1 D.TIi2 hTI)
  ·exact (sb.2 _ D.TOz).trans TO'
  ·exact h1'.at fun o q=>(sb.2 _ D.i1z).trans q
  ·exact h2'.at fun o q=>(sb.2 _ D.i2z).trans q
  ·have hlt:c < s.heap.objs.size:=by
    have e':c=z∨c=TI∨c=TO∨c=i1∨c=i2:=by simpa using hcm
    rcases e' with q|q|q|q|q
    ·rw [q];exact hzl
    ·rw [q];exact Heap.lt_size hTI
    ·rw [q];exact Heap.lt_size hTO
    ·rw [q];obtain ⟨_,e1,_⟩:=h1;exact Heap.lt_size e1
    ·rw [q];obtain ⟨_,e2,_⟩:=h2;exact Heap.lt_size e2
   rw [zi (Nat.ne_of_lt hlt)]
   exact (hf c hcm).1
 done:=by
  intro X hP hw hK hc i pins s σ H E I hf st hg
  subst hP hw hK
  obtain ⟨hz,hTI,⟨x0,y0,hTO⟩,h1,h2⟩:=st
  obtain ⟨xs,ys,hqx,hqy,hend⟩:=hg
  obtain ⟨its,rv,p,_⟩:=I.list hqx
  obtain ⟨its2,rv2,p2,_⟩:=I.list hqy
  have l1:=rv.length
  have l2:=rv2.length
  have he:its.toArray[i]?=none∨its2.toArray[i]?=none:=by
   rcases hend with q|q
   ·exact .inl (by simp;omega)
   ·exact .inr (by simp;omega)
  exact wpAny_pyNext_zip_end (I.ok.hd hc) D hz hTI hTO h1 h2 p.isList p2.isList he fun h' hk=>⟨rfl,I.turnedL (t':=s.toks) (ch:=[z,TI,TO,i1,i2]) (fun c o hb q=>
   hk c o (fun q'=>hb (by simp [q'])) (fun q'=>hb (by simp [q'])) (fun q'=>hb (by simp [q'])) (fun q'=>hb (by simp [q'])) q) hf⟩
 self:=fun A i s Q E st h=>wpAny_pyIter_zip st.1 h
def zeD (K:PySem.W.Frag) (ta:TA):TI:=fun σ H R=>ta σ H fun vs H1=>∃a b xs ys,vs=[.ref a,.ref b]∧SqL K H1 a xs∧SqL K H1 b ys∧R (Itz K a b) H1
theorem zKx {X:Cx} {e e2:Expr} {ta:TA} {p pos tpos:Pos} {elts:List Expr} {kk:Nat} (hg:Gl X "zip") (hm:X.mg "zip"=none) (ha:PA X [e,e2] ta)
  (hs:starEach [e,e2] X.env=(false,eval e X.env)::starEach [e2] X.env:=by rfl) (hpl:(backTo pos (starEach [e2] X.env)).any (·.1)=false:=by rfl):
  PI X (.Tuple elts kk tpos) (.Call (.Name "zip" p) [e,e2] [] pos) (zeD X.K ta):=by
 intro pins s σ H R I h
 refine Call_ (zRg I hg hm zQr (PyProof.Rows.callWith_type1 (thn (ha pos pins s σ H _ I h) fun us s1 ⟨vs,H1,I1,r1,q1⟩=>?_) hs hpl))
 obtain ⟨a,b,xs,ys,ex,hqx,hqy,q⟩:=q1
 subst ex
 cases r1 with
 |cons r rr=>
  cases rr with
  |cons r' rr=>
   cases rr
   cases r
   cases r'
   obtain ⟨its,rv,p1,_⟩:=I1.list hqx
   obtain ⟨its2,rv2,p2,_⟩:=I1.list hqy
   have la:a < s1.heap.objs.size:=p1.lt
   have lb:b < s1.heap.objs.size:=p2.lt
   refine call_zip_2 p1.isList p2.isList fun h' hz hTI hTO h1 h2 hsz hk=>wpAny_pyIter_zip hz ?_
   have I2:Inv X pins σ H1 { s1 with heap:=h' }:=I1.kept (t':=s1.toks) hk
   refine ⟨s1.heap.objs.size + 4,[s1.heap.objs.size + 4,s1.heap.objs.size + 2,s1.heap.objs.size + 3,s1.heap.objs.size,s1.heap.objs.size + 1],_,_,H1,rfl,I2,zez (PySem.W.ktu_apart s1.heap.objs.size a b la lb),⟨hz,hTI,⟨_,_,hTO⟩,h1,h2⟩,fun c hcm=>?_,q⟩
   have e':c=s1.heap.objs.size + 4∨c=s1.heap.objs.size + 2∨c=s1.heap.objs.size + 3∨c=s1.heap.objs.size∨c=s1.heap.objs.size + 1:=by simpa using hcm
   have hle:s1.heap.objs.size≤c:=by
    rcases e' with z|z|z|z|z
    ·rw [z];exact Nat.le_add_right _ _
    ·rw [z];exact Nat.le_add_right _ _
    ·rw [z];exact Nat.le_add_right _ _
    ·rw [z];exact Nat.le_refl _
    ·rw [z];exact Nat.le_add_right _ _
   exact I1.fpOk hle (I1.hok.fresh hle)
end L2
section
namespace Bits
open PySem PyProof.Rows
end Bits
end
section
namespace TL
open PySem PySem.Builtin PySem.Builtin.Str PySem.StrLaws
end TL
end
namespace L2
open PySem PySem.Spec PyProof.Rows
end L2
namespace L2
open PySem PySem.Spec PyProof.Rows
end L2
namespace Att
open PySem PySem.W PySem.Calls PyProof.Rows
end Att
namespace L2
open PySem PySem.Spec PyProof.Rows
end L2
namespace L2
open PySem PySem.Spec PyProof.Rows
end L2
namespace L2
open PySem PySem.Spec PyProof.Rows
def inClass (s:Stmt) (j:Nat):Stmt:=match s with
 |.ClassDef _ _ _ body _ _ _ _ _ _ _=>body.getD j (.Pass ⟨0,0,0,0⟩)
 |_=>.Pass ⟨0,0,0,0⟩
def z2c (s:Stmt):Arguments:=match s with
 |.FunctionDef _ a _ _ _ _ _ _ _ _=>a
 |_=>{ posonlyargs:=[],args:=[],vararg:=none,kwonlyargs:=[],kw_defaults:=[],kwarg:=none,defaults:=[] }
def zEc (s:Stmt):List Stmt:=match s with
 |.FunctionDef _ _ b _ _ _ _ _ _ _=>b
 |_=>[]
def zj (s:Stmt):Scope:=match s with
 |.FunctionDef _ _ _ _ _ _ sc _ _ _=>sc
 |_=>{ kind:=.function,names:=[],isGenerator:=false,isCoroutine:=false }
abbrev CX0:CXT:=fun _ _ _ _ _ _=>False
abbrev E0:XK:=fun _ _ _=>False
theorem zVe {X:Cx}:zZj CX0 X E0:=fun _ _ _ _ _ _ _ h=>h.elim
structure Fun (K:PySem.W.Frag) (x qual:Str) (st:Stmt) (f:Addr) (fd:FuncData):Prop where
 ex:∃(oc:Value) (od:Option Addr) (kV doc pm:Value) (an:Option Addr) (cdv ct:Value) (osl:Array (Option Value)),
  fd=PySem.W.fnOf x qual (z2c st) (zEc st) (zj st) .none kV doc pm an cdv ct∧K.lookup f=some ⟨oc,od,.func fd,osl⟩∧PySem.W.codeIn K cdv qual=true
 kp:PySem.W.keepIn K (.ref f)=true
section
variable {P:Program} {w:World} {K:PySem.W.Frag} {mg:Str→Option Value} {base:Heap}
theorem Fun.ok {x qual:Str} {st:Stmt} {f:Addr} {fd:FuncData} {N ps:List Str} {k:Nat} {sp:Sp} (F:Fun K x qual st f fd) (S:zu N ps (zj st)) (len:∀vs H Q E,sp vs H Q E→vs.length=ps.length)
  (hbody:∀(cdv:Value) (A:Around) (outer:List Env) (s:Shared) (H:Hp) (vs:List V) (Q:VK) (E:XK),zhc k (A.deeper (envOfC qual (zj st) s.heap.objs.size f cdv))→sp vs H Q E→
   ∃t,PSs (zKo CX0 P w K mg base N qual (zj st) f cdv A outer s H E).nox (zEc st) t∧t { nx:=fun _ H'=>Q .non H',rt:=Q } (start N vs) H):zG P w K mg base CX0 (k + 1) f fd ps sp:=by
 obtain ⟨oc,od,kV,doc,pm,an,cdv,ct,osl,rfl,lk,hcd⟩:=F.ex
 refine z9z lk hcd S len fun A outer s H vs Q E hr hsp=>?_
 obtain ⟨t,h,q⟩:=hbody cdv A outer s H vs Q E hr hsp
 exact ⟨t,h.nox,q⟩
theorem Fun.binds {x qual:Str} {st:Stmt} {f:Addr} {fd:FuncData} {ps:List Str} (F:Fun K x qual st f fd)
  (h:∀(kV doc pm:Value) (an:Option Addr) (cdv ct:Value) (us:List Value),us.length=ps.length→bindArgs (PySem.W.fnOf x qual (z2c st) (zEc st) (zj st) .none kV doc pm an cdv ct) ⟨us,[]⟩=pure (ps.zip us)):Binds K fd ps []:=by
 obtain ⟨oc,od,kV,doc,pm,an,cdv,ct,osl,rfl,lk,hcd⟩:=F.ex
 exact .all (h kV doc pm an cdv ct)
theorem zDx {x qual:Str} {st:Stmt} {f:Addr} {oc:Value} {od an:Option Addr} {osl:Array (Option Value)} {kV doc pm cdv ct:Value} (l:K.lookup f=some ⟨oc,od,.func (PySem.W.fnOf x qual (z2c st) (zEc st) (zj st) .none kV doc pm an cdv ct),osl⟩)
  (c:PySem.W.codeIn K cdv qual=true) (k:PySem.W.keepIn K (.ref f)=true):Fun K x qual st f (PySem.W.fnOf x qual (z2c st) (zEc st) (zj st) .none kV doc pm an cdv ct):=⟨⟨oc,od,kV,doc,pm,an,cdv,ct,osl,rfl,l,c⟩,k⟩
end
theorem zM {A:Around} {k:Nat} (hr:zhc k A):A.units + 1 < cLine:=Nat.lt_of_le_of_lt (Nat.add_le_add_left (by decide:1≤64) _) hr.units
section
variable {X:Cx}
theorem pv (i:Nat) {x:Str} {pos:Pos} (hN:X.N[i]?=some x:=by rfl) (hv:Vis X.env.scope x:=by first|exact Or.inl rfl|exact Or.inr (Or.inl rfl)|exact Or.inr (Or.inr rfl)) (hd:(x==("__debug__":Str))=false:=by decide)
  (hcd:(x==("__classdict__":Str))=false:=by decide):PE X (.Name x pos) (zAb i):=zXB hN hv hd hcd
theorem zdr:zag X (.builtin "len") (fun xs H Q=>∃a kvs,xs=[V.ref a]∧H a=some (.dK kvs)∧Q (.int kvs.length) H):=by
 intro pins s σ H xs us Q I r h
 obtain ⟨a,kvs,rfl,ha,q⟩:=h
 obtain ⟨u,rfl,ru⟩:=vals1 r
 cases ru
 exact zKC I (.inl ha) fun t s' I'=>⟨.int kvs.length,H,I',⟨t,rfl⟩,q⟩
end
theorem zO {A B:Prop} (h:B):if false=true then A else B:=by
 rw [if_neg Bool.false_ne_true]
 exact h
theorem zic {A B:Prop} (h:A):if true=true then A else B:=by
 rw [if_pos rfl]
 exact h
theorem zmb {c A B:Prop} [Decidable c] (h1:c→A) (h2:¬c→B):if c then A else B:=by
 by_cases h:c
 ·rw [if_pos h]
  exact h1 h
 ·rw [if_neg h]
  exact h2 h
def zB (H H':Hp):Prop:=∀b o,H b=some o→H' b=some o
theorem zB.refl (H:Hp):zB H H:=fun _ _ h=>h
theorem zB.trans {H H1 H2:Hp} (a:zB H H1) (b:zB H1 H2):zB H H2:=fun c o h=>b c o (a c o h)
theorem zB.free {H H':Hp} (e:zB H H') {l:Addr} (h:H' l=Option.none):H l=Option.none:=by
 cases q:H l with
 |none=>rfl
 |some o=>
  rw [e l o q] at h
  cases h
theorem zB.seq {K:PySem.W.Frag} {H H':Hp} {a:Addr} {xs:List V} (e:zB H H') (h:SqL K H a xs):SqL K H' a xs:=by
 rcases h with (h|⟨o,h⟩)|h
 ·exact .inl (.inl (e _ _ h))
 ·exact .inl (.inr ⟨o,e _ _ h⟩)
 ·exact .inr h
section
variable {κ:Type} [DecidableEq κ]
theorem zBy {p:κ×V} {r:List (κ×V)} {k:κ} (e:p.1=k):zhe (p::r) k=zhe r k:=by
 unfold zhe
 rw [List.filter_cons,if_neg (by simp [e])]
theorem zpx {p:κ×V} {r:List (κ×V)} {k:κ} (e:¬p.1=k):zhe (p::r) k=p::zhe r k:=by
 unfold zhe
 rw [List.filter_cons,if_pos (by simp [e])]
end
theorem at_of {xs:List V} {z:Int} {j:Nat} {v:V} (e:z=(j:Int)) (h:xs[j]?=some v):atI xs z=some v:=by
 rw [e]
 exact zJA h
theorem zB.made {H H1:Hp} {x dx C:Addr} (nx:H x=Option.none) (nd:H dx=Option.none) (k:∀b o,(upd (upd H dx (.own x)) x (.ins C dx [])) b=some o→b≠x→H1 b=some o):zB H H1:=fun b o e=>
 k b o (by rw [zi (zk e nx),zi (zk e nd)];exact e) (zk e nx)
end L2
namespace Pv
open PySem PySem.Spec PyProof.Rows L2
def top (i:Nat):Stmt:=PySem.Challenge.pw_origincert_s01_answers.main.body.getD i (.Pass ⟨0,0,0,0⟩)
abbrev zEf:Stmt:=top 3
abbrev zCg:Stmt:=top 4
abbrev zlh:Stmt:=top 19
abbrev zfi:Stmt:=top 20
abbrev zbj:Stmt:=top 21
abbrev ztg:Stmt:=top 22
abbrev zyg:Stmt:=top 23
abbrev zYm:Stmt:=top 44
abbrev z0h:Stmt:=top 45
abbrev zxg:Stmt:=top 46
abbrev zui:Stmt:=top 47
abbrev zCf:Stmt:=top 48
abbrev zEk:Stmt:=top 49
abbrev z3h:Stmt:=top 50
abbrev z7f:Stmt:=top 51
abbrev zAg:Stmt:=top 52
abbrev zff:Stmt:=top 53
abbrev zee:Stmt:=top 54
abbrev z1f:Stmt:=top 55
abbrev zii:Stmt:=top 56
abbrev zxj:Stmt:=top 57
abbrev zPm:Stmt:=top 58
abbrev z6g:Stmt:=top 59
abbrev z4k:Stmt:=top 60
abbrev zwk:Stmt:=top 61
abbrev zbg:Stmt:=top 62
abbrev z1k:Stmt:=top 63
abbrev zBf:Stmt:=top 64
abbrev zAf:Stmt:=top 65
abbrev zpq:Stmt:=top 67
abbrev zCm:Stmt:=top 68
abbrev z2q:Stmt:=top 69
abbrev znj:Stmt:=top 70
abbrev zct:Stmt:=top 71
abbrev zOt:Stmt:=top 72
abbrev zdh:Stmt:=top 73
abbrev z9g:Stmt:=top 74
abbrev zTd:Stmt:=top 77
abbrev z5d:Stmt:=top 78
abbrev zxi:Stmt:=top 79
abbrev zMk:Stmt:=top 80
abbrev zdf:Stmt:=top 81
abbrev zKk:Stmt:=top 82
abbrev zUm:Stmt:=top 84
abbrev z8e:Stmt:=top 85
abbrev zwi:Stmt:=top 86
abbrev zvg:Stmt:=top 87
abbrev z4s:Stmt:=top 88
abbrev zjj:Stmt:=top 89
abbrev zAo:Stmt:=top 90
abbrev z3g:Stmt:=top 91
abbrev zqi:Stmt:=top 92
abbrev zkj:Stmt:=top 93
abbrev zno:Stmt:=top 94
abbrev zKm:Stmt:=top 95
abbrev zGj:Stmt:=top 97
abbrev zcm:Stmt:=top 98
abbrev zWt:Stmt:=top 99
abbrev zDm:Stmt:=top 100
abbrev ztk:Stmt:=top 101
abbrev zWm:Stmt:=top 103
abbrev z4g:Stmt:=top 104
abbrev zki:Stmt:=top 105
abbrev zrm:Stmt:=top 106
abbrev zEq:Stmt:=top 107
abbrev z8d:Stmt:=top 108
abbrev zOq:Stmt:=top 109
abbrev zFf:Stmt:=top 111
abbrev zog:Stmt:=top 112
abbrev z9f:Stmt:=top 113
abbrev z2f:Stmt:=top 114
abbrev zbh:Stmt:=top 115
abbrev zTl:Stmt:=top 116
abbrev zfh:Stmt:=inClass (top 16) 0
abbrev zRh:Stmt:=inClass (top 17) 0
abbrev zDj:Stmt:=inClass (top 18) 0
abbrev zyk:Stmt:=inClass (top 42) 0
abbrev zsj:Stmt:=inClass (top 43) 0
set_option genInjectivity false in
set_option genSizeOf false in
set_option genSizeOfSpec false in
structure Adr where
 zpi:Addr
 z7h:FuncData
 zVj:Addr
 z9j:FuncData
 zLl:Addr
 ztl:FuncData
 zpm:Addr
 z1l:FuncData
 zCj:Addr
 zdj:FuncData
 zak:Addr
 z1j:FuncData
 zTj:Addr
 zik:FuncData
 zVr:Addr
 zTr:FuncData
 zRm:Addr
 zMl:FuncData
 zfk:Addr
 z3j:FuncData
 zim:Addr
 zxm:FuncData
 zbi:Addr
 zdi:FuncData
 zSp:Addr
 zcq:FuncData
 zAm:Addr
 z3l:FuncData
 zaj:Addr
 z3i:FuncData
 zJj:Addr
 zWj:FuncData
 zsh:Addr
 zmh:FuncData
 zmg:Addr
 z4f:FuncData
 zZi:Addr
 zNi:FuncData
 zZl:Addr
 zGm:FuncData
 zqj:Addr
 zuj:FuncData
 zIi:Addr
 zDi:FuncData
 zhl:Addr
 zGl:FuncData
 z1o:Addr
 zwp:FuncData
 zaq:Addr
 z9p:FuncData
 zzi:Addr
 zXi:FuncData
 z2o:Addr
 zOp:FuncData
 z1h:Addr
 zJf:FuncData
 zsi:Addr
 zai:FuncData
 zov:Addr
 zyv:FuncData
 zmr:Addr
 z5r:FuncData
 z1v:Addr
 zKv:FuncData
 zTn:Addr
 zfo:FuncData
 zuy:Addr
 zBx:FuncData
 zpy:Addr
 z0x:FuncData
 zgl:Addr
 zBl:FuncData
 zsl:Addr
 zAl:FuncData
 zhf:Addr
 zpf:FuncData
 zfg:Addr
 zdg:FuncData
 z8l:Addr
 z7l:FuncData
 zeq:Addr
 zup:FuncData
 zph:Addr
 z7e:FuncData
 z0p:Addr
 z5p:FuncData
 z0r:Addr
 zLr:FuncData
 zqh:Addr
 zvh:FuncData
 z4l:Addr
 zXl:FuncData
 zjk:Addr
 zLj:FuncData
 zHx:Addr
 z7x:FuncData
 zUn:Addr
 zHn:FuncData
 zzt:Addr
 zgu:FuncData
 zpl:Addr
 zIl:FuncData
 zHm:Addr
 zBm:FuncData
 zao:Addr
 zYn:FuncData
 znt:Addr
 ziu:FuncData
 z1r:Addr
 zAr:FuncData
 zIn:Addr
 zbo:FuncData
 zEr:Addr
 zSr:FuncData
 zXx:Addr
 zEx:FuncData
 zzr:Addr
 zgr:FuncData
 z6o:Addr
 z1p:FuncData
 zqr:Addr
 zPr:FuncData
 zHl:Addr
 zal:FuncData
 zVm:Addr
 zNm:FuncData
 zJr:Addr
 zGr:FuncData
 zhv:Addr
 zJv:FuncData
 z8f:Addr
 zcg:FuncData
 zwv:Addr
 zkv:FuncData
 zoi:Addr
 zji:FuncData
 zRi:Addr
 zSi:FuncData
 zCi:Addr
 zYi:FuncData
 z7i:Addr
 z6i:FuncData
 zjl:Addr
 zvl:FuncData
 znr:Addr
 zYl:FuncData
 zch:Addr
 zgh:FuncData
 zOh:Addr
 zgi:FuncData
 zij:Addr
 zpj:FuncData
 zkg:Addr
 zgg:FuncData
 zlj:Addr
 zrj:FuncData
 zy:Addr
 zab:Addr
 zg:Addr
 zo:Addr
 zcb:Addr
 zhd:Addr
 zBg:Addr
 zzf:Addr
 zHb:Addr
 zef:Addr
 zob:Addr
structure Dn (K:PySem.W.Frag) (mg:Str→Option Value) (x:Str) (st:Stmt) (f:Addr) (fd:FuncData) (ps:List Str):Prop where
 F:Fun K x x st f fd
 b:Binds K fd ps []
 m:mg x=some (.ref f)
theorem zn {X:Cx} {k j:Nat} {x:Str} {st:Stmt} {f:Addr} {fd:FuncData} {ps:List Str} {sp:Sp} {e:Expr} {es:List Expr} {t:TA} {p pos:Pos} (F:zG X.prog X.w X.K X.mg X.base CX0 k f fd ps sp) (hr:zhc j X.A) (D:Dn X.K X.mg x st f fd ps) (ha:PA X (e::es) t) (hk:k≤j:=by decide) (hg:Gl X x:=by rfl) (hdb:(x==("__debug__":Str))=false:=by decide) (he:starEach (e::es) X.env=(false,eval e X.env)::starEach es X.env:=by rfl) (hpl:(backTo pos (starEach es X.env)).any (·.1)=false:=by rfl):
  PE X (.Call (.Name x p) (e::es) [] pos) (zEh sp [] E0 t):=z4m F (hr.mono hk) hg D.m D.F.kp D.b .nil zVe ha hdb he hpl
structure Txt (K:PySem.W.Frag) (mg:Str→Option Value) (A:Adr):Prop where
 zVi:∃t,mg "MOST_ACCOUNTS"=some (.int (32) t)
 zek:∃t,mg "MOST_DEVICES"=some (.int (16) t)
 zCl:∃t,mg "MOST_TOTALS"=some (.int (256) t)
 zoj:∃t,mg "MOST_RUNS"=some (.int (256) t)
 zOj:∃t,mg "MOST_NUMBERS"=some (.int (1000000000) t)
 zDl:∃t,mg "MOST_OFFERS"=some (.int (32) t)
 zYg:∃t,mg "MOST_OFFERS_MADE"=some (.int (1000000000) t)
 zTe:∃t,mg "UNITS_EACH"=some (.int (1000) t)
 zTh:∃t,mg "TECHNIQUES"=some (.int (10) t)
 zUi:∃t,mg "ANY_TECHNIQUE"=some (.int (-1) t)
 zfb:∃t,mg "ACCEPTED"=some (.int (0) t)
 zYj:∃t,mg "OUT_OF_RANGE"=some (.int (-1) t)
 z2p:∃t,mg "NOT_OPEN"=some (.int (-2) t)
 znk:∃t,mg "OPEN_ALREADY"=some (.int (-3) t)
 zig:∃t,mg "FULL"=some (.int (-4) t)
 zbc:∃t,mg "NO_ACCOUNT"=some (.int (-5) t)
 zSd:∃t,mg "NO_DEVICE"=some (.int (-6) t)
 zYe:∃t,mg "WRONG_NUMBER"=some (.int (-7) t)
 zom:∃t,mg "TOO_FEW"=some (.int (-8) t)
 zxf:∃t,mg "WRONG_MONTH"=some (.int (-9) t)
 zFk:∃t,mg "NO_OFFER"=some (.int (-10) t)
 zdl:∃t,mg "BEYOND_DEBT"=some (.int (-11) t)
 zKp:∃t,mg "LIVE"=some (.int (1) t)
 zVg:∃t,mg "OFFERED"=some (.int (2) t)
 zof:∃t,mg "CANCELLED"=some (.int (3) t)
 zJi:∃t,mg "EXPIRED"=some (.int (4) t)
 zfj:∃t,mg "WITHDRAWN"=some (.int (5) t)
 zNv:∃t,mg "WHOLE"=some (.int (10000) t)
 zvj:mg "ARGUMENTS"=some (.ref A.zhd)
 zLt:mg "RANGES"=some (.ref A.zBg)
 zkc:Dn K mg "argument_count" zEf A.zpi A.z7h ["place"]
 zMc:Dn K mg "all_in_range" zCg A.zVj A.z9j ["place","arguments"]
 z8:Dn K mg "has_account" zlh A.zLl A.ztl ["book","account"]
 zOb:Dn K mg "has_device" zfi A.zpm A.z1l ["book","number"]
 zFb:Dn K mg "device_at" zbj A.zCj A.zdj ["book","number"]
 ztc:Dn K mg "technique_of" ztg A.zak A.z1j ["book","run"]
 z5b:Dn K mg "of_technique" zyg A.zTj A.zik ["book","runs","choice"]
 zoc:Dn K mg "live_on" zYm A.zVr A.zTr ["account"]
 zzd:Dn K mg "offered_by" z0h A.zRm A.zMl ["account","offer"]
 zpc:Dn K mg "cancelled_by" zxg A.zfk A.z3j ["account","use"]
 zxd:Dn K mg "expired_on" zui A.zim A.zxm ["account"]
 zjc:Dn K mg "withdrawn_from" zCf A.zbi A.zdi ["account"]
 zed:Dn K mg "state_of" zEk A.zSp A.zcq ["run"]
 zcc:Dn K mg "account_of" z3h A.zAm A.z3l ["run"]
 zlb:Dn K mg "runs_in_state" z7f A.zaj A.z3i ["runs","state"]
 zSb:Dn K mg "runs_live_on" zAg A.zJj A.zWj ["runs","account"]
 z9b:Dn K mg "runs_offered_by" zff A.zsh A.zmh ["runs","account"]
 ztb:Dn K mg "runs_cancelled_for" zee A.zmg A.z4f ["runs","use"]
 zVb:Dn K mg "numbers_given" z1f A.zZi A.zNi ["runs"]
 zwb:Dn K mg "numbers_in" zii A.zZl A.zGm ["runs"]
 zSc:Dn K mg "are_alike" zxj A.zqj A.zuj ["one","other"]
 znc:Dn K mg "add_run" zPm A.zIi A.zDi ["runs","run"]
 z2b:Dn K mg "add_stretch" z6g A.zhl A.zGl ["runs","run","first","last","status"]
 zje:Dn K mg "with_run" z4k A.z1o A.zwp ["runs","run"]
 zge:Dn K mg "restated" zwk A.zaq A.z9p ["runs","parts","status"]
 zub:Dn K mg "parts_between" zbg A.zzi A.zXi ["runs","first","last"]
 zHd:Dn K mg "all_live" z1k A.z2o A.zOp ["runs","first","last","account"]
 zmc:Dn K mg "earliest_parts" zBf A.z1h A.zJf ["runs","count"]
 zrh:A.zJf.code=.ref A.zzf
 zgc:Dn K mg "greatest_parts" zAf A.zsi A.zai ["runs","count"]
 zrg:Dn K mg "where" zpq A.zov A.zyv ["book","number"]
 zAe:Dn K mg "holding" zCm A.zmr A.z5r ["book","account"]
 zzg:Dn K mg "tally" z2q A.z1v A.zKv ["book","account","choice"]
 zNd:Dn K mg "statement" znj A.zTn A.zfo ["book","use"]
 z8h:Dn K mg "info" zct A.zuy A.zBx ["book","number"]
 zli:Dn K mg "sums" zOt A.zpy A.z0x ["book"]
 zbd:Dn K mg "list_offers" zdh A.zgl A.zBl ["book"]
 z8c:Dn K mg "month_total" z9g A.zsl A.zAl ["book","number","month"]
 zkb:Dn K mg "numbers_by_technique" zTd A.zhf A.zpf ["book","runs"]
 zIb:Dn K mg "units_by_technique" z5d A.zfg A.zdg ["book"]
 zqd:Dn K mg "units_left" zxi A.z8l A.z7l ["book"]
 zde:Dn K mg "parts_of" zMk A.zeq A.zup ["covered","left","uncovered"]
 z8b:Dn K mg "ten_thousandths" zdf A.zph A.z7e ["parts"]
 zUg:A.z7e.code=.ref A.zef
 zae:Dn K mg "disclose" zKk A.z0p A.z5p ["book","use","used"]
 zUc:Dn K mg "restate" zUm A.z0r A.zLr ["book","parts","status"]
 zUb:Dn K mg "restate_stretch" z8e A.zqh A.zvh ["book","account","first","last","status"]
 zTc:Dn K mg "with_pairs" zwi A.z4l A.zXl ["parts"]
 zrc:Dn K mg "restate_some" zvg A.zjk A.zLj ["book","account","choice","count","status"]
 zVh:Dn K mg "move" z4s A.zHx A.z7x ["book","source","to","first","last"]
 zUd:Dn K mg "move_some" zjj A.zUn A.zHn ["book","source","to","choice","count"]
 zHf:Dn K mg "cancel" zAo A.zzt A.zgu ["book","account","first","last","use"]
 zad:Dn K mg "cancel_some" z3g A.zpl A.zIl ["book","account","choice","count","use"]
 zvd:Dn K mg "make_offer" zqi A.zHm A.zBm ["book","source","to","first","last"]
 zid:Dn K mg "end_offer" zkj A.zao A.zYn ["book","number","account"]
 zIf:Dn K mg "accept" zno A.znt A.ziu ["book","number"]
 zJe:Dn K mg "decline" zKm A.z1r A.zAr ["book","number"]
 zQd:Dn K mg "status_at" zGj A.zIn A.zbo ["run","life","now"]
 zOe:Dn K mg "runs_at" zcm A.zEr A.zSr ["runs","life","now"]
 zti:Dn K mg "tick" zWt A.zXx A.zEx ["book","month"]
 zFe:Dn K mg "debt_of" zDm A.zzr A.zgr ["device"]
 zfe:Dn K mg "withdraw" ztk A.z6o A.z1p ["book","number","count"]
 zNe:Dn K mg "open_up" zWm A.zqr A.zPr ["book","life","window"]
 z6c:Dn K mg "add_account" z4g A.zHl A.zal ["book"]
 ztd:Dn K mg "add_device" zki A.zVm A.zNm ["book","account","technique"]
 zBe:Dn K mg "pass_on" zrm A.zJr A.zGr ["book","number","account"]
 zpg:Dn K mg "meter" zEq A.zhv A.zJv ["book","number","month","total"]
 zJb:Dn K mg "whole_certificates" z8d A.z8f A.zcg ["balance"]
 zqg:Dn K mg "issue" zOq A.zwv A.zkv ["book","number","month"]
 zlc:Dn K mg "answer_issuing" zFf A.zoi A.zji ["book","place","arguments"]
 zDc:Dn K mg "answer_moving" zog A.zRi A.zSi ["book","place","arguments"]
 zAc:Dn K mg "answer_ending" z9f A.zCi A.zYi ["book","place","arguments"]
 zzc:Dn K mg "answer_asking" z2f A.z7i A.z6i ["book","place","arguments"]
 z7c:Dn K mg "answer_call" zbh A.zjl A.zvl ["book","place","arguments"]
 z1d:Dn K mg "answers" zTl A.znr A.zYl ["calls"]
 zkl:Fun K "__init__" "Device.__init__" zfh A.zch A.zgh
 zFl:Binds K A.zgh ["self","owner","technique"] []
 zVl:Fun K "__init__" "Offer.__init__" zRh A.zOh A.zgi
 zFm:Binds K A.zgi ["self","source","to","first","last"] []
 zeo:Fun K "__init__" "Book.__init__" zDj A.zij A.zpj
 zZn:Binds K A.zpj ["self"] []
 ztp:Fun K "__init__" "Run.__init__" zyk A.zkg A.zgg
 zAh:Binds K A.zgg ["self","first","last","device","month","status"] []
 z0n:Fun K "__init__" "Part.__init__" zsj A.zlj A.zrj
 zIg:Binds K A.zrj ["self","run","first","last"] []
 zbb:Cls K A.zy
 zvt:mg "Device"=some (.ref A.zy)
 zxr:Mk K A.zy A.zch
 zJc:zhb K A.zy "owner"
 zZc:zhb K A.zy "technique"
 zue:zhb K A.zy "issued"
 zJd:zhb K A.zy "withdrawn"
 zKb:zhb K A.zy "balance"
 zKc:Cls K A.zab
 zHv:mg "Offer"=some (.ref A.zab)
 zhu:Mk K A.zab A.zOh
 z2e:zhb K A.zab "source"
 zIh:zhb K A.zab "to"
 ztf:zhb K A.zab "first"
 zZf:zhb K A.zab "last"
 zt:Cls K A.zg
 zEy:mg "Book"=some (.ref A.zg)
 zDv:Mk K A.zg A.zij
 zre:zhb K A.zg "opened"
 zrf:zhb K A.zg "life"
 zuf:zhb K A.zg "window"
 zgd:zhb K A.zg "now"
 z4c:zhb K A.zg "accounts"
 zqc:zhb K A.zg "devices"
 zfc:zhb K A.zg "totals"
 zR:zhb K A.zg "runs"
 zqb:zhb K A.zg "offers"
 zWc:zhb K A.zg "offers_made"
 zJ:Cls K A.zo
 zNs:mg "Run"=some (.ref A.zo)
 zpp:Mk K A.zo A.zkg
 znb:zhb K A.zo "first"
 zXb:zhb K A.zo "last"
 z0b:zhb K A.zo "device"
 zec:zhb K A.zo "month"
 zvb:zhb K A.zo "status"
 znd:Cls K A.zcb
 z0o:mg "Part"=some (.ref A.zcb)
 zkn:Mk K A.zcb A.zlj
 z0f:zhb K A.zcb "run"
 zSe:zhb K A.zcb "first"
 zqf:zhb K A.zcb "last"
 zQi:A.zy≠A.zab
 zZd:A.zy≠A.zg
 zll:A.zab≠A.zg
 zql:A.zy≠A.zo
 zpu:A.zab≠A.zo
 zXn:A.zg≠A.zo
 zwg:A.zy≠A.zcb
 zGs:A.zab≠A.zcb
 zvi:A.zg≠A.zcb
 zOu:A.zo≠A.zcb
 zbk:A.zHb≠A.zob
 v_all:mg "all"=none
 zAd:mg "len"=none
 zmu:mg "list"=none
 zXk:mg "max"=none
 z9v:mg "min"=none
 zPv:mg "range"=none
 z4o:mg "reversed"=none
 zGk:mg "sorted"=none
 v_sum:mg "sum"=none
 zKs:mg "zip"=none
structure zHj (base:Heap) (mg:Str→Option Value) (A:Adr):Prop where
 bm:∃bm ob,mg "__builtins__"=some (.ref bm)∧bm≠builtinsNs∧base.get? bm=some ob∧ob.cls=.type "module"∧ob.dict=some builtinsNs∧ob.data=.plain
 zQo:PySem.W.CodeHd base A.zzf A.zHb
 zFn:PySem.W.CodeHd base A.zef A.zob
abbrev zcf:Pos:=⟨164,32,164,66⟩
abbrev zHe:Pos:=⟨251,42,251,87⟩
abbrev zuo:List Str:=["place"]
theorem zuh:zu zuo ["place"] (zj zEf):=⟨rfl,rfl,rfl,by decide +kernel,rfl,by decide +kernel,by decide +kernel⟩
abbrev z6q:List Str:=["place","arguments","kind","value","bounds"]
theorem z4i:zu z6q ["place","arguments"] (zj zCg):=⟨rfl,rfl,rfl,by decide +kernel,rfl,by decide +kernel,by decide +kernel⟩
abbrev zis:List Str:=["book","account"]
theorem zMj:zu zis ["book","account"] (zj zlh):=⟨rfl,rfl,rfl,by decide +kernel,rfl,by decide +kernel,by decide +kernel⟩
abbrev z9s:List Str:=["book","number"]
theorem zml:zu z9s ["book","number"] (zj zfi):=⟨rfl,rfl,rfl,by decide +kernel,rfl,by decide +kernel,by decide +kernel⟩
abbrev z3u:List Str:=["book","number"]
theorem zlg:zu z3u ["book","number"] (zj zbj):=⟨rfl,rfl,rfl,by decide +kernel,rfl,by decide +kernel,by decide +kernel⟩
abbrev zqq:List Str:=["book","run"]
theorem zLi:zu zqq ["book","run"] (zj ztg):=⟨rfl,rfl,rfl,by decide +kernel,rfl,by decide +kernel,by decide +kernel⟩
abbrev zlq:List Str:=["book","runs","choice","run"]
theorem zTi:zu zlq ["book","runs","choice"] (zj zyg):=⟨rfl,rfl,rfl,by decide +kernel,rfl,by decide +kernel,by decide +kernel⟩
abbrev zzy:List Str:=["account"]
theorem z5v:zu zzy ["account"] (zj zYm):=⟨rfl,rfl,rfl,by decide +kernel,rfl,by decide +kernel,by decide +kernel⟩
abbrev zKt:List Str:=["account","offer"]
theorem zbs:zu zKt ["account","offer"] (zj z0h):=⟨rfl,rfl,rfl,by decide +kernel,rfl,by decide +kernel,by decide +kernel⟩
abbrev zVq:List Str:=["account","use"]
theorem zEp:zu zVq ["account","use"] (zj zxg):=⟨rfl,rfl,rfl,by decide +kernel,rfl,by decide +kernel,by decide +kernel⟩
abbrev zkt:List Str:=["account"]
theorem zzl:zu zkt ["account"] (zj zui):=⟨rfl,rfl,rfl,by decide +kernel,rfl,by decide +kernel,by decide +kernel⟩
abbrev zUo:List Str:=["account"]
theorem zth:zu zUo ["account"] (zj zCf):=⟨rfl,rfl,rfl,by decide +kernel,rfl,by decide +kernel,by decide +kernel⟩
abbrev zYw:List Str:=["run"]
theorem z2n:zu zYw ["run"] (zj zEk):=⟨rfl,rfl,rfl,by decide +kernel,rfl,by decide +kernel,by decide +kernel⟩
abbrev z5t:List Str:=["run"]
theorem zbl:zu z5t ["run"] (zj z3h):=⟨rfl,rfl,rfl,by decide +kernel,rfl,by decide +kernel,by decide +kernel⟩
abbrev zVp:List Str:=["runs","state","run"]
theorem z9h:zu zVp ["runs","state"] (zj z7f):=⟨rfl,rfl,rfl,by decide +kernel,rfl,by decide +kernel,by decide +kernel⟩
abbrev zRq:List Str:=["runs","account","run"]
theorem zOi:zu zRq ["runs","account"] (zj zAg):=⟨rfl,rfl,rfl,by decide +kernel,rfl,by decide +kernel,by decide +kernel⟩
abbrev zsn:List Str:=["runs","account","run"]
theorem zWg:zu zsn ["runs","account"] (zj zff):=⟨rfl,rfl,rfl,by decide +kernel,rfl,by decide +kernel,by decide +kernel⟩
abbrev zQk:List Str:=["runs","use","run"]
theorem zNf:zu zQk ["runs","use"] (zj zee):=⟨rfl,rfl,rfl,by decide +kernel,rfl,by decide +kernel,by decide +kernel⟩
abbrev zMp:List Str:=["runs"]
theorem zqo:zu zMp ["runs"] (zj z1f):=⟨rfl,rfl,rfl,by decide +kernel,rfl,by decide +kernel,by decide +kernel⟩
abbrev zlt:List Str:=["runs","run"]
theorem zrl:zu zlt ["runs"] (zj zii):=⟨rfl,rfl,rfl,by decide +kernel,rfl,by decide +kernel,by decide +kernel⟩
abbrev zfv:List Str:=["one","other"]
theorem zsu:zu zfv ["one","other"] (zj zxj):=⟨rfl,rfl,rfl,by decide +kernel,rfl,by decide +kernel,by decide +kernel⟩
abbrev zcy:List Str:=["runs","run"]
theorem zFw:zu zcy ["runs","run"] (zj zPm):=⟨rfl,rfl,rfl,by decide +kernel,rfl,by decide +kernel,by decide +kernel⟩
abbrev zqs:List Str:=["runs","run","first","last","status"]
theorem zhq:zu zqs ["runs","run","first","last","status"] (zj z6g):=⟨rfl,rfl,rfl,by decide +kernel,rfl,by decide +kernel,by decide +kernel⟩
abbrev zbx:List Str:=["runs","run","result"]
theorem zco:zu zbx ["runs","run"] (zj z4k):=⟨rfl,rfl,rfl,by decide +kernel,rfl,by decide +kernel,by decide +kernel⟩
abbrev zLw:List Str:=["runs","parts","status","part_of","part","result","run","chosen"]
theorem zWn:zu zLw ["runs","parts","status"] (zj zwk):=⟨rfl,rfl,rfl,by decide +kernel,rfl,by decide +kernel,by decide +kernel⟩
abbrev zGp:List Str:=["runs","first","last","parts","run","low","high"]
theorem zYh:zu zGp ["runs","first","last"] (zj zbg):=⟨rfl,rfl,rfl,by decide +kernel,rfl,by decide +kernel,by decide +kernel⟩
abbrev zZw:List Str:=["runs","first","last","account","part"]
theorem z3n:zu zZw ["runs","first","last","account"] (zj z1k):=⟨rfl,rfl,rfl,by decide +kernel,rfl,by decide +kernel,by decide +kernel⟩
abbrev zyo:List Str:=["runs","count","parts","left","run","last"]
theorem znh:zu zyo ["runs","count"] (zj zBf):=⟨rfl,rfl,rfl,by decide +kernel,rfl,by decide +kernel,by decide +kernel⟩
abbrev zYo:List Str:=["runs","count","parts","left","run","first"]
theorem zwh:zu zYo ["runs","count"] (zj zAf):=⟨rfl,rfl,rfl,by decide +kernel,rfl,by decide +kernel,by decide +kernel⟩
abbrev zVA:List Str:=["book","number","parts","run"]
theorem z0t:zu zVA ["book","number"] (zj zpq):=⟨rfl,rfl,rfl,by decide +kernel,rfl,by decide +kernel,by decide +kernel⟩
abbrev zyy:List Str:=["book","account","runs","answer","run"]
theorem zNp:zu zyy ["book","account"] (zj zCm):=⟨rfl,rfl,rfl,by decide +kernel,rfl,by decide +kernel,by decide +kernel⟩
abbrev zsA:List Str:=["book","account","choice","live","offered"]
theorem zit:zu zsA ["book","account","choice"] (zj z2q):=⟨rfl,rfl,rfl,by decide +kernel,rfl,by decide +kernel,by decide +kernel⟩
abbrev zGu:List Str:=["book","use","runs","answer","run"]
theorem zPl:zu zGu ["book","use"] (zj znj):=⟨rfl,rfl,rfl,by decide +kernel,rfl,by decide +kernel,by decide +kernel⟩
abbrev zKB:List Str:=["book","number","device"]
theorem zTv:zu zKB ["book","number"] (zj zct):=⟨rfl,rfl,rfl,by decide +kernel,rfl,by decide +kernel,by decide +kernel⟩
abbrev zGB:List Str:=["book","states","amounts","state"]
theorem zQv:zu zGB ["book"] (zj zOt):=⟨rfl,rfl,rfl,by decide +kernel,rfl,by decide +kernel,by decide +kernel⟩
abbrev zBs:List Str:=["book","answer","number","offer"]
theorem zok:zu zBs ["book"] (zj zdh):=⟨rfl,rfl,rfl,by decide +kernel,rfl,by decide +kernel,by decide +kernel⟩
abbrev zDs:List Str:=["book","number","month"]
theorem zRj:zu zDs ["book","number","month"] (zj z9g):=⟨rfl,rfl,rfl,by decide +kernel,rfl,by decide +kernel,by decide +kernel⟩
abbrev zFj:List Str:=["book","runs","amounts","run"]
theorem z5e:zu zFj ["book","runs"] (zj zTd):=⟨rfl,rfl,rfl,by decide +kernel,rfl,by decide +kernel,by decide +kernel⟩
abbrev zVk:List Str:=["book","amounts","pair"]
theorem zWf:zu zVk ["book"] (zj z5d):=⟨rfl,rfl,rfl,by decide +kernel,rfl,by decide +kernel,by decide +kernel⟩
abbrev z4t:List Str:=["book","cancelled","units","amount"]
theorem zel:zu z4t ["book"] (zj zxi):=⟨rfl,rfl,rfl,by decide +kernel,rfl,by decide +kernel,by decide +kernel⟩
abbrev zQw:List Str:=["covered","left","uncovered","all_left","amount","units"]
theorem z1n:zu zQw ["covered","left","uncovered"] (zj zMk):=⟨rfl,rfl,rfl,by decide +kernel,rfl,by decide +kernel,by decide +kernel⟩
abbrev zGn:List Str:=["parts","total","shares","lacking","order","at","part"]
theorem z0g:zu zGn ["parts"] (zj zdf):=⟨rfl,rfl,rfl,by decide +kernel,rfl,by decide +kernel,by decide +kernel⟩
abbrev zMw:List Str:=["book","use","used","covered","uncovered"]
theorem zOn:zu zMw ["book","use","used"] (zj zKk):=⟨rfl,rfl,rfl,by decide +kernel,rfl,by decide +kernel,by decide +kernel⟩
abbrev zlx:List Str:=["book","parts","status","runs"]
theorem zBp:zu zlx ["book","parts","status"] (zj zUm):=⟨rfl,rfl,rfl,by decide +kernel,rfl,by decide +kernel,by decide +kernel⟩
abbrev zvn:List Str:=["book","account","first","last","status"]
theorem zSg:zu zvn ["book","account","first","last","status"] (zj z8e):=⟨rfl,rfl,rfl,by decide +kernel,rfl,by decide +kernel,by decide +kernel⟩
abbrev zQt:List Str:=["parts","answer","part"]
theorem zwl:zu zQt ["parts"] (zj zwi):=⟨rfl,rfl,rfl,by decide +kernel,rfl,by decide +kernel,by decide +kernel⟩
abbrev zJq:List Str:=["book","account","choice","count","status","runs","parts"]
theorem z1i:zu zJq ["book","account","choice","count","status"] (zj zvg):=⟨rfl,rfl,rfl,by decide +kernel,rfl,by decide +kernel,by decide +kernel⟩
abbrev zCB:List Str:=["book","source","to","first","last"]
theorem ziv:zu zCB ["book","source","to","first","last"] (zj z4s):=⟨rfl,rfl,rfl,by decide +kernel,rfl,by decide +kernel,by decide +kernel⟩
abbrev zwu:List Str:=["book","source","to","choice","count"]
theorem zvm:zu zwu ["book","source","to","choice","count"] (zj zjj):=⟨rfl,rfl,rfl,by decide +kernel,rfl,by decide +kernel,by decide +kernel⟩
abbrev zZy:List Str:=["book","account","first","last","use"]
theorem zlr:zu zZy ["book","account","first","last","use"] (zj zAo):=⟨rfl,rfl,rfl,by decide +kernel,rfl,by decide +kernel,by decide +kernel⟩
abbrev z9r:List Str:=["book","account","choice","count","use"]
theorem z6j:zu z9r ["book","account","choice","count","use"] (zj z3g):=⟨rfl,rfl,rfl,by decide +kernel,rfl,by decide +kernel,by decide +kernel⟩
abbrev zou:List Str:=["book","source","to","first","last","number"]
theorem zol:zu zou ["book","source","to","first","last"] (zj zqi):=⟨rfl,rfl,rfl,by decide +kernel,rfl,by decide +kernel,by decide +kernel⟩
abbrev zxu:List Str:=["book","number","account","offer"]
theorem zmm:zu zxu ["book","number","account"] (zj zkj):=⟨rfl,rfl,rfl,by decide +kernel,rfl,by decide +kernel,by decide +kernel⟩
abbrev z6y:List Str:=["book","number"]
theorem zer:zu z6y ["book","number"] (zj zno):=⟨rfl,rfl,rfl,by decide +kernel,rfl,by decide +kernel,by decide +kernel⟩
abbrev zLy:List Str:=["book","number"]
theorem z9o:zu zLy ["book","number"] (zj zKm):=⟨rfl,rfl,rfl,by decide +kernel,rfl,by decide +kernel,by decide +kernel⟩
abbrev zLu:List Str:=["run","life","now"]
theorem z9l:zu zLu ["run","life","now"] (zj zGj):=⟨rfl,rfl,rfl,by decide +kernel,rfl,by decide +kernel,by decide +kernel⟩
abbrev zLx:List Str:=["runs","life","now","result","run"]
theorem zqp:zu zLx ["runs","life","now"] (zj zcm):=⟨rfl,rfl,rfl,by decide +kernel,rfl,by decide +kernel,by decide +kernel⟩
abbrev zYB:List Str:=["book","month","expired_before"]
theorem zvv:zu zYB ["book","month"] (zj zWt):=⟨rfl,rfl,rfl,by decide +kernel,rfl,by decide +kernel,by decide +kernel⟩
abbrev ztx:List Str:=["device"]
theorem zRp:zu ztx ["device"] (zj zDm):=⟨rfl,rfl,rfl,by decide +kernel,rfl,by decide +kernel,by decide +kernel⟩
abbrev z3w:List Str:=["book","number","count","device","runs","parts","run"]
theorem zdo:zu z3w ["book","number","count"] (zj ztk):=⟨rfl,rfl,rfl,by decide +kernel,rfl,by decide +kernel,by decide +kernel⟩
abbrev z3x:List Str:=["book","life","window"]
theorem zYp:zu z3x ["book","life","window"] (zj zWm):=⟨rfl,rfl,rfl,by decide +kernel,rfl,by decide +kernel,by decide +kernel⟩
abbrev zps:List Str:=["book"]
theorem zkk:zu zps ["book"] (zj z4g):=⟨rfl,rfl,rfl,by decide +kernel,rfl,by decide +kernel,by decide +kernel⟩
abbrev zau:List Str:=["book","account","technique"]
theorem zil:zu zau ["book","account","technique"] (zj zki):=⟨rfl,rfl,rfl,by decide +kernel,rfl,by decide +kernel,by decide +kernel⟩
abbrev zmy:List Str:=["book","number","account","device"]
theorem zkp:zu zmy ["book","number","account"] (zj zrm):=⟨rfl,rfl,rfl,by decide +kernel,rfl,by decide +kernel,by decide +kernel⟩
abbrev zUA:List Str:=["book","number","month","total","pair","device"]
theorem zyt:zu zUA ["book","number","month","total"] (zj zEq):=⟨rfl,rfl,rfl,by decide +kernel,rfl,by decide +kernel,by decide +kernel⟩
abbrev zZk:List Str:=["balance"]
theorem zXf:zu zZk ["balance"] (zj z8d):=⟨rfl,rfl,rfl,by decide +kernel,rfl,by decide +kernel,by decide +kernel⟩
abbrev z0A:List Str:=["book","number","month","device","amount","first","last","runs"]
theorem z2t:zu z0A ["book","number","month"] (zj zOq):=⟨rfl,rfl,rfl,by decide +kernel,rfl,by decide +kernel,by decide +kernel⟩
abbrev zlo:List Str:=["book","place","arguments"]
theorem zoh:zu zlo ["book","place","arguments"] (zj zFf):=⟨rfl,rfl,rfl,by decide +kernel,rfl,by decide +kernel,by decide +kernel⟩
abbrev znp:List Str:=["book","place","arguments"]
theorem zWh:zu znp ["book","place","arguments"] (zj zog):=⟨rfl,rfl,rfl,by decide +kernel,rfl,by decide +kernel,by decide +kernel⟩
abbrev zdq:List Str:=["book","place","arguments"]
theorem zni:zu zdq ["book","place","arguments"] (zj z9f):=⟨rfl,rfl,rfl,by decide +kernel,rfl,by decide +kernel,by decide +kernel⟩
abbrev zAp:List Str:=["book","place","arguments"]
theorem zhi:zu zAp ["book","place","arguments"] (zj z2f):=⟨rfl,rfl,rfl,by decide +kernel,rfl,by decide +kernel,by decide +kernel⟩
abbrev zus:List Str:=["book","place","arguments"]
theorem zSj:zu zus ["book","place","arguments"] (zj zbh):=⟨rfl,rfl,rfl,by decide +kernel,rfl,by decide +kernel,by decide +kernel⟩
abbrev zCy:List Str:=["calls","book","result","at","place","behind","answer"]
theorem zfq:zu zCy ["calls"] (zj zTl):=⟨rfl,rfl,rfl,by decide +kernel,rfl,by decide +kernel,by decide +kernel⟩
abbrev zes:List Str:=["self","owner","technique"]
theorem zhk:zu zes ["self","owner","technique"] (zj zfh):=⟨rfl,rfl,rfl,by decide +kernel,rfl,by decide +kernel,by decide +kernel⟩
abbrev zjt:List Str:=["self","source","to","first","last"]
theorem znl:zu zjt ["self","source","to","first","last"] (zj zRh):=⟨rfl,rfl,rfl,by decide +kernel,rfl,by decide +kernel,by decide +kernel⟩
abbrev zEu:List Str:=["self"]
theorem zOm:zu zEu ["self"] (zj zDj):=⟨rfl,rfl,rfl,by decide +kernel,rfl,by decide +kernel,by decide +kernel⟩
abbrev z2w:List Str:=["self","first","last","device","month","status"]
theorem z2u:zu z2w ["self","first","last","device","month","status"] (zj zyk):=⟨rfl,rfl,rfl,by decide +kernel,rfl,by decide +kernel,by decide +kernel⟩
abbrev zDu:List Str:=["self","run","first","last"]
theorem zot:zu zDu ["self","run","first","last"] (zj zsj):=⟨rfl,rfl,rfl,by decide +kernel,rfl,by decide +kernel,by decide +kernel⟩
end Pv
namespace VM
open Vbemak
abbrev Lab:=Nat×Nat×St
def zCb (r:Run):Lab:=(r.device,r.month,r.st)
def zD:Nat→List Run→Nat→Prop
 |a,[],b=>b=a
 |a,r::l,b=>r.first=a∧a≤r.last∧zD (r.last + 1) l b
def Apart:List Run→Prop
 |[]=>True
 |[_]=>True
 |a::b::l=>zCb a≠zCb b∧Apart (b::l)
def lab:List Run→Nat→Option Lab
 |[],_=>none
 |r::l,n=>if r.first≤n∧n≤r.last then some (zCb r) else lab l n
theorem zD.le:∀{l:List Run} {a b:Nat},zD a l b→a≤b
 |[],a,b,h=>Nat.le_of_eq (Eq.symm h)
 |r::l,a,b,h=>by
  have:=zD.le h.2.2
  have:=h.2.1
  omega
theorem zD.append:∀{l l':List Run} {a b c:Nat},zD a l b→zD b l' c→zD a (l++l') c
 |[],l',a,b,c,h,h'=>by
  have e:b=a:=h
  subst e
  exact h'
 |r::l,l',a,b,c,h,h'=>⟨h.1,h.2.1,zD.append h.2.2 h'⟩
theorem zD.split:∀{l l':List Run} {a c:Nat},zD a (l++l') c→∃b,zD a l b∧zD b l' c
 |[],l',a,c,h=>⟨a,rfl,h⟩
 |r::l,l',a,c,h=>by
  obtain ⟨b,h1,h2⟩:=zD.split (l:=l) (l':=l') h.2.2
  exact ⟨b,⟨h.1,h.2.1,h1⟩,h2⟩
theorem zSh:∀{l:List Run} {a b n:Nat},zD a l b→n < a→lab l n=none
 |[],_,_,_,_,_=>rfl
 |r::l,a,b,n,h,hn=>by
  have h1:=h.1
  have h2:=h.2.1
  unfold lab
  rw [if_neg (by omega)]
  exact zSh h.2.2 (by omega)
theorem zsm:∀{l:List Run} {a b n:Nat},zD a l b→b≤n→lab l n=none
 |[],_,_,_,_,_=>rfl
 |r::l,a,b,n,h,hn=>by
  have h3:=zD.le h.2.2
  unfold lab
  rw [if_neg (by omega)]
  exact zsm h.2.2 hn
theorem zvo:∀{l:List Run} {a b n:Nat},zD a l b→a≤n→n < b→∃x,lab l n=some x
 |[],a,b,n,h,h1,h2=>by
  have e:b=a:=h
  omega
 |r::l,a,b,n,h,h1,h2=>by
  unfold lab
  by_cases q:r.first≤n∧n≤r.last
  ·rw [if_pos q]
   exact ⟨_,rfl⟩
  ·rw [if_neg q]
   have:=h.1
   exact zvo h.2.2 (by omega) h2
theorem zN {r:Run} {l:List Run} {n:Nat} (h:r.first≤n∧n≤r.last):lab (r::l) n=some (zCb r):=by
 unfold lab
 rw [if_pos h]
theorem zQ {r:Run} {l:List Run} {n:Nat} (h:¬(r.first≤n∧n≤r.last)):lab (r::l) n=lab l n:=by
 rw [lab.eq_2,if_neg h]
theorem zZe:∀{l l':List Run} {a b n:Nat},zD a l b→a≤n→lab (l++l') n=if n < b then lab l n else lab l' n
 |[],l',a,b,n,h,hn=>by
  have e:b=a:=h
  rw [if_neg (by omega)]
  rfl
 |r::l,l',a,b,n,h,hn=>by
  have h1:=h.1
  have h2:=h.2.1
  have h3:=zD.le h.2.2
  show lab (r::(l++l')) n=_
  by_cases q:r.first≤n∧n≤r.last
  ·rw [zN q,if_pos (by omega),zN q]
  ·rw [zQ q,zQ q]
   exact zZe h.2.2 (by omega)
theorem uniq:∀{l l':List Run} {a b:Nat},zD a l b→zD a l' b→Apart l→Apart l'→(∀n,a≤n→n < b→lab l n=lab l' n)→l=l'
 |[],[],_,_,_,_,_,_,_=>rfl
 |[],r'::l',a,b,h,h',_,_,_=>by
  have e:b=a:=h
  have h3:=zD.le h'.2.2
  have:=h'.2.1
  omega
 |r::l,[],a,b,h,h',_,_,_=>by
  have e:b=a:=h'
  have h3:=zD.le h.2.2
  have:=h.2.1
  omega
 |r::l,r'::l',a,b,h,h',p,p',e=>by
  have b1:=zD.le h.2.2
  have b2:=zD.le h'.2.2
  have f1:=h.1
  have f2:=h'.1
  have g1:=h.2.1
  have g2:=h'.2.1
  have e0:=e a (Nat.le_refl a) (by omega)
  rw [zN ⟨by omega,by omega⟩,zN ⟨by omega,by omega⟩] at e0
  have e0:=Option.some.inj e0
  have key:∀{r r':Run} {l l':List Run} {a b:Nat},zD a (r::l) b→zD a (r'::l') b→Apart (r::l)→zCb r=zCb r'→(∀n,a≤n→n < b→lab (r::l) n=lab (r'::l') n)→r.last < r'.last→False:=by
   intro r r' l l' a b h h' p e0 e lt
   have f1:=h.1
   have f2:=h'.1
   have g1:=h.2.1
   have b2:=zD.le h'.2.2
   have e1:=e (r.last + 1) (by omega) (by omega)
   rw [zQ (by omega),zN (r:=r') ⟨by omega,by omega⟩] at e1
   match l,h,p with
   |[],h,p=>cases e1
   |x::l,h,p=>
    have hx:=h.2.2
    rw [zN ⟨by rw [hx.1];exact Nat.le_refl _,hx.2.1⟩] at e1
    exact p.1 (e0.trans (Option.some.inj e1).symm)
  have el:r.last=r'.last:=by
   rcases Nat.lt_trichotomy r.last r'.last with q|q|q
   ·exact (key h h' p e0 e q).elim
   ·exact q
   ·exact (key h' h p' e0.symm (fun n x y=>(e n x y).symm) q).elim
  have er:r=r':=by
   cases r
   cases r'
   simp only [zCb,Prod.mk.injEq] at e0
   simp only at f1 f2 el
   simp only [Run.mk.injEq]
   exact ⟨by omega,el,e0.1,e0.2.1,e0.2.2⟩
  subst er
  have pt:∀{l:List Run},Apart (r::l)→Apart l:=fun {l} p=>match l,p with
   |[],_=>trivial
   |_::_,p=>p.2
  have et:l=l':=uniq h.2.2 h'.2.2 (pt p) (pt p') fun n x y=>by
   have:=e n (by omega) y
   rw [zQ (by omega),zQ (by omega)] at this
   exact this
  rw [et]
theorem zhr {a b:Run}:alike a b=true↔zCb a=zCb b∧a.last + 1=b.first:=by
 unfold alike zCb
 simp only [decide_eq_true_eq,Prod.mk.injEq]
 constructor
 ·rintro ⟨h1,h2,h3,h4⟩
  exact ⟨⟨h1,h2,h3⟩,h4⟩
 ·rintro ⟨⟨h1,h2,h3⟩,h4⟩
  exact ⟨h1,h2,h3,h4⟩
def jn (a:Run):List Run→List Run
 |[]=>[a]
 |b::t=>if alike a b=true then { a with last:=b.last }::t else a::b::t
theorem zSn (a:Run) (r:List Run):joined (a::r)=jn a (joined r):=by
 show (match joined r with
  |[]=>[a]
  |b::t=>if alike a b=true then { a with last:=b.last }::t else a::b::t)=jn a (joined r)
 cases joined r<;>rfl
theorem zTf:∀{l:List Run} {a b:Nat},zD a l b→zD a (joined l) b∧Apart (joined l)∧∀n,lab (joined l) n=lab l n
 |[],a,b,h=>⟨h,trivial,fun _=>rfl⟩
 |r::l,a,b,h=>by
  obtain ⟨t,p,e⟩:=zTf h.2.2
  rw [zSn]
  match hj:joined l with
  |[]=>
   rw [hj] at t e
   exact ⟨⟨h.1,h.2.1,t⟩,trivial,fun n=>by
    show lab [r] n=lab (r::l) n
    by_cases q:r.first≤n∧n≤r.last
    ·rw [zN q,zN q]
    ·rw [zQ q,zQ q,e]⟩
  |x::t'=>
   rw [hj] at t p e
   have tx:=t.1
   have ty:=t.2.1
   by_cases q:alike r x=true
   ·rw [show jn r (x::t')={ r with last:=x.last }::t' from if_pos q]
    obtain ⟨q1,q2⟩:=zhr.mp q
    have hl:=h.2.1
    have hf:=h.1
    refine ⟨⟨h.1,by show a≤x.last;omega,t.2.2⟩,?_,fun n=>?_⟩
    ·match t',p with
     |[],_=>trivial
     |y::t'',p=>exact ⟨fun z=>p.1 (q1.symm.trans z),p.2⟩
    ·by_cases c:r.first≤n∧n≤r.last
     ·rw [zN (l:=l) c,zN (by (try dsimp only);omega)]
      rfl
     ·rw [zQ c,←e n]
      by_cases c2:x.first≤n∧n≤x.last
      ·rw [zN (l:=t') c2,zN (by (try dsimp only);omega)]
       exact congrArg some q1
      ·rw [zQ (r:=x) c2,zQ (by (try dsimp only);omega)]
   ·rw [show jn r (x::t')=r::x::t' from if_neg q]
    refine ⟨⟨h.1,h.2.1,t⟩,⟨fun z=>q (zhr.mpr ⟨z,tx.symm⟩),p⟩,fun n=>?_⟩
    by_cases c:r.first≤n∧n≤r.last
    ·rw [zN c,zN c]
    ·rw [zQ c,zQ c,e]
def zKw (n:Nat) (r:Run):List Run:=if r.first < n∧n≤r.last then [{ r with last:=n - 1 },{ r with first:=n }] else [r]
theorem zNk (n:Nat) (r:Run) (l:List Run):cutAt n (r::l)=zKw n r++cutAt n l:=rfl
theorem zqt (c:Nat):∀{l:List Run} {a b:Nat},zD a l b→zD a (cutAt c l) b∧∀n,lab (cutAt c l) n=lab l n
 |[],a,b,h=>⟨h,fun _=>rfl⟩
 |r::l,a,b,h=>by
  obtain ⟨t,e⟩:=zqt c h.2.2
  rw [zNk]
  unfold zKw
  have h1:=h.1
  have h2:=h.2.1
  by_cases q:r.first < c∧c≤r.last
  ·rw [if_pos q]
   refine ⟨⟨h1,by show a≤c - 1;omega,by show c=c - 1 + 1;omega,by show c - 1 + 1≤r.last;omega,t⟩,fun n=>?_⟩
   show lab ({ r with last:=c - 1 }::{ r with first:=c }::cutAt c l) n=_
   by_cases z:r.first≤n∧n≤r.last
   ·rw [zN (r:=r) z]
    by_cases z2:n≤c - 1
    ·rw [zN (by (try dsimp only);omega)]
     rfl
    ·rw [zQ (by (try dsimp only);omega),zN (by (try dsimp only);omega)]
     rfl
   ·rw [zQ (r:=r) z,zQ (by (try dsimp only);omega),zQ (by (try dsimp only);omega),e]
  ·rw [if_neg q]
   refine ⟨⟨h1,h2,t⟩,fun n=>?_⟩
   show lab (r::cutAt c l) n=_
   by_cases z:r.first≤n∧n≤r.last
   ·rw [zN z,zN z]
   ·rw [zQ z,zQ z,e]
def zap (c:Nat) (l:List Run):Prop:=∀r∈l,¬(r.first < c∧c≤r.last)
theorem znm (c:Nat):∀(l:List Run),zap c (cutAt c l)
 |[]=>fun r h=>absurd h (by simp [cutAt])
 |r::l=>fun x h=>by
  rw [zNk] at h
  rcases List.mem_append.mp h with h|h
  ·unfold zKw at h
   by_cases q:r.first < c∧c≤r.last
   ·rw [if_pos q] at h
    simp at h
    rcases h with rfl|rfl
    ·show ¬(r.first < c∧c≤c - 1)
     omega
    ·show ¬(c < c∧c≤r.last)
     omega
   ·rw [if_neg q] at h
    simp at h
    subst h
    exact q
  ·exact znm c l x h
theorem zfr {c d:Nat}:∀{l:List Run},zap d l→zap d (cutAt c l)
 |[],_=>fun r h=>absurd h (by simp [cutAt])
 |r::l,hd=>fun x h=>by
  rw [zNk] at h
  rcases List.mem_append.mp h with h|h
  ·have hr:=hd r (List.mem_cons_self ..)
   unfold zKw at h
   by_cases q:r.first < c∧c≤r.last
   ·rw [if_pos q] at h
    simp at h
    rcases h with rfl|rfl
    ·show ¬(r.first < d∧d≤c - 1)
     omega
    ·show ¬(c < d∧d≤r.last)
     omega
   ·rw [if_neg q] at h
    simp at h
    subst h
    exact hr
  ·exact zfr (fun y hy=>hd y (List.mem_cons_of_mem _ hy)) x h
def zte (st:St) (x:Lab):Lab:=(x.1,x.2.1,st)
theorem zvk {f:Run→Run} (hf:∀r,(f r).first=r.first∧(f r).last=r.last):∀{l:List Run} {a b:Nat},zD a l b→zD a (l.map f) b
 |[],_,_,h=>h
 |r::l,a,b,h=>⟨(hf r).1.trans h.1,by rw [(hf r).2];exact h.2.1,by rw [(hf r).2];exact zvk hf h.2.2⟩
theorem zCh {f:Run→Run} (hf:∀r,(f r).first=r.first∧(f r).last=r.last) {g:Lab→Lab}:∀{l:List Run} {n:Nat},(∀r∈l,r.first≤n→n≤r.last→zCb (f r)=g (zCb r))→lab (l.map f) n=(lab l n).map g
 |[],_,_=>rfl
 |r::l,n,h=>by
  show lab (f r::l.map f) n=_
  by_cases q:r.first≤n∧n≤r.last
  ·rw [zN q,zN (r:=f r) (by rw [(hf r).1,(hf r).2];exact q),h r (List.mem_cons_self ..) q.1 q.2]
   rfl
  ·rw [zQ q,zQ (r:=f r) (by rw [(hf r).1,(hf r).2];exact q)]
   exact zCh hf fun x hx=>h x (List.mem_cons_of_mem _ hx)
theorem zWw {f:Run→Run} (hf:∀r,(f r).first=r.first∧(f r).last=r.last):∀{l:List Run} {n:Nat},(∀r∈l,r.first≤n→n≤r.last→zCb (f r)=zCb r)→lab (l.map f) n=lab l n:=fun {l n} h=>by
 rw [zCh hf (g:=id) h]
 cases lab l n<;>rfl
theorem z7d {a b:Nat} {st:St} {l:List Run} {s t:Nat} (h:zD s l t) (hab:a≤b):zD s (changed a b (fun _=>st) l) t∧Apart (changed a b (fun _=>st) l)∧
  ∀n,lab (changed a b (fun _=>st) l) n=if a≤n∧n≤b then (lab l n).map (zte st) else lab l n:=by
 obtain ⟨t1,e1⟩:=zqt a h
 obtain ⟨t2,e2⟩:=zqt (b + 1) t1
 have c1:zap a (cutAt (b + 1) (cutAt a l)):=zfr (znm a l)
 have c2:zap (b + 1) (cutAt (b + 1) (cutAt a l)):=znm (b + 1) _
 unfold changed
 generalize cutAt (b + 1) (cutAt a l)=m at *
 have hf:∀r:Run,(if a≤r.first∧r.last≤b then { r with st:=st } else r).first=r.first∧(if a≤r.first∧r.last≤b then { r with st:=st } else r).last=r.last:=fun r=>by
  by_cases q:a≤r.first∧r.last≤b
  ·rw [if_pos q]
   exact ⟨rfl,rfl⟩
  ·rw [if_neg q]
   exact ⟨rfl,rfl⟩
 obtain ⟨j1,j2,j3⟩:=zTf (zvk hf t2)
 refine ⟨j1,j2,fun n=>?_⟩
 rw [j3]
 by_cases q:a≤n∧n≤b
 ·rw [if_pos q,zCh (g:=zte st) hf,e2,e1]
  intro r hr x y
  have:=c1 r hr
  have:=c2 r hr
  rw [if_pos (by omega)]
  rfl
 ·rw [if_neg q,zWw hf,e2,e1]
  intro r hr x y
  rw [if_neg (by omega)]
theorem zeh {st:St} {s t:Nat}:∀{ps:List (Nat×Nat)} {l:List Run},zD s l t→Apart l→(∀p∈ps,p.1≤p.2)→zD s (changedAll ps (fun _=>st) l) t∧Apart (changedAll ps (fun _=>st) l)∧
  ∀n,lab (changedAll ps (fun _=>st) l) n=if (∃p∈ps,p.1≤n∧n≤p.2) then (lab l n).map (zte st) else lab l n
 |[],l,h,hp,_=>⟨h,hp,fun n=>by rw [if_neg (by simp)];rfl⟩
 |p::ps,l,h,hp,hq=>by
  obtain ⟨t1,a1,e1⟩:=z7d (st:=st) h (hq p (List.mem_cons_self ..))
  obtain ⟨t2,a2,e2⟩:=zeh (ps:=ps) t1 a1 fun q hq'=>hq q (List.mem_cons_of_mem _ hq')
  refine ⟨t2,a2,fun n=>?_⟩
  show lab (changedAll ps (fun _=>st) (changed p.1 p.2 (fun _=>st) l)) n=_
  rw [e2 n,e1 n]
  by_cases c:p.1≤n∧n≤p.2
  ·rw [if_pos (show ∃q∈p::ps,q.1≤n∧n≤q.2 from ⟨p,List.mem_cons_self ..,c⟩),if_pos c]
   by_cases d:∃q∈ps,q.1≤n∧n≤q.2
   ·rw [if_pos d]
    cases lab l n<;>rfl
   ·rw [if_neg d]
  ·rw [if_neg c]
   by_cases d:∃q∈ps,q.1≤n∧n≤q.2
   ·obtain ⟨q,q1,q2⟩:=d
    rw [if_pos ⟨q,q1,q2⟩,if_pos ⟨q,List.mem_cons_of_mem _ q1,q2⟩]
   ·rw [if_neg d,if_neg]
    rintro ⟨q,q1,q2⟩
    rcases List.mem_cons.mp q1 with rfl|q1
    ·exact c q2
    ·exact d ⟨q,q1,q2⟩
def zpe (l:List Run) (r:Run):List Run:=match l.getLast? with
 |none=>[r]
 |some x=>if zCb x=zCb r then l.dropLast++[{ r with first:=x.first }] else l++[r]
theorem zzk:∀{l:List Run} {x y:Run},Apart (l++[x])→zCb x≠zCb y→Apart (l++[x]++[y])
 |[],x,y,_,h=>⟨h,trivial⟩
 |[a],x,y,p,h=>⟨p.1,zzk (l:=[]) p.2 h⟩
 |a::b::l,x,y,p,h=>⟨p.1,zzk (l:=b::l) p.2 h⟩
theorem zfp:∀{l:List Run} {x y:Run},Apart (l++[x])→zCb x=zCb y→Apart (l++[y])
 |[],x,y,_,h=>trivial
 |[a],x,y,p,h=>⟨fun z=>p.1 (z.trans h.symm),trivial⟩
 |a::b::l,x,y,p,h=>⟨p.1,zfp (l:=b::l) p.2 h⟩
theorem zmj (m:List Run) (x r:Run):zpe (m++[x]) r=if zCb x=zCb r then m++[{ r with first:=x.first }] else m++[x]++[r]:=by
 unfold zpe
 rw [List.getLast?_append,List.dropLast_concat]
 rfl
theorem z5l {l:List Run} {a b:Nat} {r:Run} (h:zD a l b) (p:Apart l) (hf:r.first=b) (hl:r.first≤r.last):
  zD a (zpe l r) (r.last + 1)∧Apart (zpe l r)∧∀n,lab (zpe l r) n=if r.first≤n∧n≤r.last then some (zCb r) else lab l n:=by
 rcases List.eq_nil_or_concat l with rfl|⟨m,x,rfl⟩
 ·have e:b=a:=h
  refine ⟨⟨hf.trans e,by omega,rfl⟩,trivial,fun n=>?_⟩
  rfl
 ·rw [List.concat_eq_append] at h p ⊢
  rw [zmj]
  obtain ⟨c,h1,h2⟩:=zD.split h
  obtain ⟨x1,x2,x3⟩:=h2
  have x3:b=x.last + 1:=x3
  by_cases q:zCb x=zCb r
  ·rw [if_pos q]
   have t:zD a (m++[{ r with first:=x.first }]) (r.last + 1):=h1.append ⟨x1,by show c≤r.last;omega,rfl⟩
   refine ⟨t,zfp p q,fun n=>?_⟩
   have hc:=zD.le h1
   by_cases ha:a≤n
   ·rw [zZe h1 ha,zZe h1 ha]
    by_cases hn:n < c
    ·rw [if_pos hn,if_pos hn,if_neg (by omega)]
    ·rw [if_neg hn,if_neg hn]
     by_cases z:r.first≤n∧n≤r.last
     ·rw [if_pos z,zN (by (try dsimp only);omega)]
      rfl
     ·rw [if_neg z]
      by_cases z2:x.first≤n∧n≤x.last
      ·rw [zN (r:=x) z2,zN (by (try dsimp only);omega)]
       exact congrArg some q.symm
      ·rw [zQ (r:=x) z2,zQ (by (try dsimp only);omega)]
   ·rw [if_neg (by omega),zSh h (by omega),zSh t (by omega)]
  ·rw [if_neg q]
   have t:zD a (m++[x]++[r]) (r.last + 1):=h.append ⟨hf,by omega,rfl⟩
   refine ⟨t,zzk p q,fun n=>?_⟩
   by_cases ha:a≤n
   ·rw [zZe h ha]
    by_cases hn:n < b
    ·rw [if_pos hn,if_neg (by omega)]
    ·rw [if_neg hn]
     by_cases z:r.first≤n∧n≤r.last
     ·rw [zN z,if_pos z]
     ·rw [zQ z,if_neg z,zsm h (by omega)]
      rfl
   ·rw [if_neg (by have:=zD.le h;omega),zSh h (by omega),zSh t (by omega)]
theorem z5u {l:List Run} {a b:Nat} {r:Run} (h:zD a l b) (p:Apart l) (hf:r.first=b) (hl:r.first≤r.last):joined (l++[r])=zpe l r:=by
 have t:zD a (l++[r]) (r.last + 1):=h.append ⟨hf,by omega,rfl⟩
 obtain ⟨j1,j2,j3⟩:=zTf t
 obtain ⟨k1,k2,k3⟩:=z5l h p hf hl
 refine uniq j1 k1 j2 k2 fun n x y=>?_
 rw [j3,k3,zZe h x]
 by_cases hn:n < b
 ·rw [if_pos hn,if_neg (by omega)]
 ·rw [if_neg hn,zN (by omega),if_pos (by omega)]
end VM
namespace VM
open Vbemak
def zPb (acc:List Run) (r:Run) (a b:Nat) (st:St):List Run:=if a≤b then zpe acc ⟨a,b,r.device,r.month,st⟩ else acc
def zV (f:Run→Option (Nat×Nat)) (st:St) (acc:List Run) (r:Run):List Run:=match f r with
 |none=>zpe acc r
 |some p=>zPb (zPb (zPb acc r r.first (p.1 - 1) r.st) r p.1 p.2 st) r (p.2 + 1) r.last r.st
def z3c (f:Run→Option (Nat×Nat)) (st:St) (l:List Run):List Run:=l.foldl (zV f st) []
def zAq (f:Run→Option (Nat×Nat)) (st:St) (r:Run) (n:Nat):Lab:=match f r with
 |none=>zCb r
 |some p=>if p.1≤n∧n≤p.2 then zte st (zCb r) else zCb r
def zyq (f:Run→Option (Nat×Nat)) (st:St):List Run→Nat→Option Lab
 |[],_=>none
 |r::l,n=>if r.first≤n∧n≤r.last then some (zAq f st r n) else zyq f st l n
def Within (f:Run→Option (Nat×Nat)) (l:List Run):Prop:=∀r∈l,∀p,f r=some p→r.first≤p.1∧p.1≤p.2∧p.2≤r.last
theorem zBk {acc:List Run} {s b:Nat} {r:Run} {x y:Nat} {st:St} (h:zD s acc b) (p:Apart acc) (hx:x=b) (hy:x≤y + 1):
  zD s (zPb acc r x y st) (y + 1)∧Apart (zPb acc r x y st)∧∀n,lab (zPb acc r x y st) n=if x≤n∧n≤y then some (r.device,r.month,st) else lab acc n:=by
 unfold zPb
 by_cases q:x≤y
 ·rw [if_pos q]
  exact z5l (r:=⟨x,y,r.device,r.month,st⟩) h p hx q
 ·rw [if_neg q]
  have e:y + 1=b:=by omega
  rw [e]
  exact ⟨h,p,fun n=>by rw [if_neg (by omega)]⟩
theorem zyu {f:Run→Option (Nat×Nat)} {st:St} {acc:List Run} {s:Nat} {r:Run} (h:zD s acc r.first) (p:Apart acc) (hr:r.first≤r.last) (h1:1≤r.first) (hf:∀q,f r=some q→r.first≤q.1∧q.1≤q.2∧q.2≤r.last):
  zD s (zV f st acc r) (r.last + 1)∧Apart (zV f st acc r)∧∀n,lab (zV f st acc r) n=if r.first≤n∧n≤r.last then some (zAq f st r n) else lab acc n:=by
 unfold zV zAq
 match e:f r with
 |none=>exact z5l h p rfl hr
 |some q=>
  obtain ⟨q1,q2,q3⟩:=hf q e
  obtain ⟨t1,a1,e1⟩:=zBk (r:=r) (st:=r.st) (x:=r.first) (y:=q.1 - 1) h p rfl (by omega)
  obtain ⟨t2,a2,e2⟩:=zBk (r:=r) (st:=st) (x:=q.1) (y:=q.2) t1 a1 (by omega) (by omega)
  obtain ⟨t3,a3,e3⟩:=zBk (r:=r) (st:=r.st) (x:=q.2 + 1) (y:=r.last) t2 a2 rfl (by omega)
  refine ⟨t3,a3,fun n=>?_⟩
  show lab (zPb (zPb (zPb acc r r.first (q.1 - 1) r.st) r q.1 q.2 st) r (q.2 + 1) r.last r.st) n=if r.first≤n∧n≤r.last then some (if q.1≤n∧n≤q.2 then zte st (zCb r) else zCb r) else lab acc n
  rw [e3,e2,e1]
  by_cases c:r.first≤n∧n≤r.last
  ·rw [if_pos c]
   by_cases c1:q.1≤n∧n≤q.2
   ·rw [if_neg (by omega),if_pos c1,if_pos c1]
    rfl
   ·rw [if_neg c1]
    by_cases c2:q.2 + 1≤n∧n≤r.last
    ·rw [if_pos c2,if_neg c1]
     rfl
    ·rw [if_neg c2,if_pos (by omega),if_neg c1]
     rfl
  ·rw [if_neg c,if_neg (by omega),if_neg (by omega),if_neg (by omega)]
theorem zgo {f:Run→Option (Nat×Nat)} {st:St} {s t:Nat}:∀{l acc:List Run} {b:Nat},zD s acc b→Apart acc→zD b l t→1≤b→Within f l→
  zD s (l.foldl (zV f st) acc) t∧Apart (l.foldl (zV f st) acc)∧∀n,lab (l.foldl (zV f st) acc) n=if n < b then lab acc n else zyq f st l n
 |[],acc,b,h,p,h',h1,hw=>by
  have e:t=b:=h'
  subst e
  refine ⟨h,p,fun n=>?_⟩
  show lab acc n=_
  by_cases c:n < t
  ·rw [if_pos c]
  ·rw [if_neg c,zsm h (by omega)]
   rfl
 |r::l,acc,b,h,p,h',h1,hw=>by
  obtain ⟨g1,g2,g3⟩:=h'
  subst g1
  obtain ⟨t1,a1,e1⟩:=zyu (f:=f) (st:=st) h p g2 h1 fun q e=>hw r (List.mem_cons_self ..) q e
  obtain ⟨t2,a2,e2⟩:=zgo (l:=l) t1 a1 g3 (by omega) fun x hx=>hw x (List.mem_cons_of_mem _ hx)
  refine ⟨t2,a2,fun n=>?_⟩
  show lab (l.foldl (zV f st) (zV f st acc r)) n=if n < r.first then lab acc n else if r.first≤n∧n≤r.last then some (zAq f st r n) else zyq f st l n
  rw [e2,e1]
  by_cases c1:n < r.first
  ·rw [if_pos c1,if_pos (by omega),if_neg (by omega)]
  ·rw [if_neg c1]
   by_cases c2:r.first≤n∧n≤r.last
   ·rw [if_pos c2,if_pos (by omega),if_pos c2]
   ·rw [if_neg (show ¬n < r.last + 1 by omega),if_neg c2]
theorem zft {f:Run→Option (Nat×Nat)} {st:St} {l:List Run} {t:Nat} (h:zD 1 l t) (hw:Within f l):zD 1 (z3c f st l) t∧Apart (z3c f st l)∧∀n,1≤n→lab (z3c f st l) n=zyq f st l n:=by
 obtain ⟨t1,a1,e1⟩:=zgo (f:=f) (st:=st) (acc:=[]) (show zD 1 [] 1 from rfl) trivial h (Nat.le_refl 1) hw
 exact ⟨t1,a1,fun n hn=>by
  have:=e1 n
  rw [if_neg (by omega)] at this
  exact this⟩
theorem z1q {f:Run→Option (Nat×Nat)} {st:St} {P:Nat→Prop} [DecidablePred P]:∀{l:List Run} {n:Nat},(∀r∈l,r.first≤n→n≤r.last→(P n↔∃p,f r=some p∧p.1≤n∧n≤p.2))→zyq f st l n=if P n then (lab l n).map (zte st) else lab l n
 |[],n,_=>by
  show none=_
  by_cases c:P n
  ·rw [if_pos c]
   rfl
  ·rw [if_neg c]
   rfl
 |r::l,n,h=>by
  show (if r.first≤n∧n≤r.last then some (zAq f st r n) else zyq f st l n)=_
  by_cases c:r.first≤n∧n≤r.last
  ·rw [if_pos c,zN c]
   have hh:=h r (List.mem_cons_self ..) c.1 c.2
   unfold zAq
   by_cases d:P n
   ·obtain ⟨p,p1,p2⟩:=hh.mp d
    rw [if_pos d,p1]
    show some (if p.1≤n∧n≤p.2 then _ else _)=_
    rw [if_pos p2]
    rfl
   ·rw [if_neg d]
    match e:f r with
    |none=>rfl
    |some p=>
     show some (if p.1≤n∧n≤p.2 then _ else _)=_
     rw [if_neg fun q=>d (hh.mpr ⟨p,e,q⟩)]
  ·rw [if_neg c,zQ c]
   exact z1q fun x hx=>h x (List.mem_cons_of_mem _ hx)
def between (a b:Nat) (r:Run):Option (Nat×Nat):=if max r.first a≤min r.last b then some (max r.first a,min r.last b) else none
theorem zxe {a b:Nat} {r:Run} {p:Nat×Nat} (h:between a b r=some p):p.1=max r.first a∧p.2=min r.last b∧p.1≤p.2:=by
 unfold between at h
 by_cases q:max r.first a≤min r.last b
 ·rw [if_pos q] at h
  cases h
  exact ⟨rfl,rfl,q⟩
 ·rw [if_neg q] at h
  cases h
theorem zcs {a b:Nat} {st:St} {l:List Run} {t:Nat} (h:zD 1 l t) (hab:a≤b):z3c (between a b) st l=changed a b (fun _=>st) l:=by
 have hw:Within (between a b) l:=fun r _ p e=>by
  obtain ⟨e1,e2,e3⟩:=zxe e
  refine ⟨?_,e3,?_⟩
  ·rw [e1];exact Nat.le_max_left ..
  ·rw [e2];exact Nat.min_le_left ..
 obtain ⟨t1,a1,e1⟩:=zft (st:=st) h hw
 obtain ⟨t2,a2,e2⟩:=z7d (st:=st) h hab
 refine uniq t1 t2 a1 a2 fun n hn _=>?_
 rw [e1 n hn,e2 n]
 refine z1q (P:=fun n=>a≤n∧n≤b) fun r hr x y=>⟨fun q=>?_,fun ⟨p,e,q⟩=>?_⟩
 ·have c:max r.first a≤min r.last b:=by omega
  refine ⟨(max r.first a,min r.last b),if_pos c,?_⟩
  dsimp only
  omega
 ·obtain ⟨z1,z2,z3⟩:=zxe e
  rw [z1,z2] at q
  omega
structure zfd where
 run:Run
 first:Nat
 last:Nat
def zjb (ps:List zfd) (r:Run):Option (Nat×Nat):=(ps.find? fun p=>p.run.first==r.first).map fun p=>(p.first,p.last)
structure zck (l:List Run) (ps:List zfd):Prop where
 nd:(ps.map fun p=>p.run.first).Nodup
 mem:∀p∈ps,p.run∈l
 lo:∀p∈ps,p.run.first≤p.first
 le:∀p∈ps,p.first≤p.last
 hi:∀p∈ps,p.last≤p.run.last
theorem z7:∀{l:List Run} {a b:Nat} {r:Run},zD a l b→r∈l→a≤r.first∧r.first≤r.last∧r.last < b
 |x::l,a,b,r,h,hr=>by
  have h1:=h.1
  have h2:=h.2.1
  have h3:=zD.le h.2.2
  rcases List.mem_cons.mp hr with rfl|hr
  ·omega
  ·have:=z7 h.2.2 hr
   omega
theorem zng:∀{l:List Run} {a b n:Nat} {r r':Run},zD a l b→r∈l→r'∈l→r.first≤n→n≤r.last→r'.first≤n→n≤r'.last→r=r'
 |x::l,a,b,n,r,r',h,hr,hr',c1,c2,c3,c4=>by
  have h1:=h.1
  have h2:=h.2.1
  rcases List.mem_cons.mp hr with e|hr
  ·rcases List.mem_cons.mp hr' with e'|hr'
   ·rw [e,e']
   ·have:=z7 h.2.2 hr'
    rw [e] at c1 c2
    omega
  ·rcases List.mem_cons.mp hr' with e|hr'
   ·have:=z7 h.2.2 hr
    rw [e] at c3 c4
    omega
   ·exact zng h.2.2 (by assumption) hr' c1 c2 c3 c4
theorem zpk {α:Type} {g:α→Nat}:∀{ps:List α} {p:α},(ps.map g).Nodup→p∈ps→ps.find? (fun q=>g q==g p)=some p
 |x::ps,p,nd,h=>by
  rw [List.map_cons,List.nodup_cons] at nd
  rcases List.mem_cons.mp h with rfl|h
  ·rw [List.find?_cons_of_pos (by simp)]
  ·rw [List.find?_cons_of_neg]
   ·exact zpk nd.2 h
   ·intro e
    exact nd.1 (List.mem_map.mpr ⟨p,h,(eq_of_beq e).symm⟩)
theorem zVn {ps:List zfd} {st:St} {l:List Run} {t:Nat} (h:zD 1 l t) (ha:Apart l) (ok:zck l ps):z3c (zjb ps) st l=changedAll (ps.map fun p=>(p.first,p.last)) (fun _=>st) l:=by
 have pof:∀{r:Run} {q:Nat×Nat},zjb ps r=some q→∃p∈ps,p.run.first=r.first∧q=(p.first,p.last):=fun {r q} e=>by
  unfold zjb at e
  cases hf:ps.find? (fun p=>p.run.first==r.first) with
  |none=>
   rw [hf] at e
   cases e
  |some p=>
   rw [hf] at e
   exact ⟨p,List.mem_of_find?_eq_some hf,eq_of_beq (List.find?_some (p:=fun p:zfd=>p.run.first==r.first) hf),(Option.some.inj e).symm⟩
 have same:∀{p:zfd} {r:Run},p∈ps→r∈l→p.run.first=r.first→p.run=r:=fun {p r} hp hr e=>by
  have z1:=z7 h (ok.mem p hp)
  have z2:=z7 h hr
  exact zng (n:=r.first) h (ok.mem p hp) hr (by omega) (by omega) (by omega) (by omega)
 have hw:Within (zjb ps) l:=fun r hr q e=>by
  obtain ⟨p,hp,e1,rfl⟩:=pof e
  have e2:=same hp hr e1
  subst e2
  exact ⟨ok.lo p hp,ok.le p hp,ok.hi p hp⟩
 obtain ⟨t1,a1,e1⟩:=zft (st:=st) h hw
 obtain ⟨t2,a2,e2⟩:=zeh (st:=st) (ps:=ps.map fun p=>(p.first,p.last)) h ha fun q hq=>by
  obtain ⟨p,hp,rfl⟩:=List.mem_map.mp hq
  exact ok.le p hp
 refine uniq t1 t2 a1 a2 fun n hn _=>?_
 rw [e1 n hn,e2 n]
 refine z1q (P:=fun n:Nat=>∃p∈ps.map (fun p:zfd=>(p.first,p.last)),p.1≤n∧n≤p.2) fun r hr x y=>⟨fun ⟨q,hq,z⟩=>?_,fun ⟨q,e,z⟩=>?_⟩
 ·obtain ⟨p,hp,rfl⟩:=List.mem_map.mp hq
  have e3:p.run=r:=zng (n:=n) h (ok.mem p hp) hr (Nat.le_trans (ok.lo p hp) z.1) (Nat.le_trans z.2 (ok.hi p hp)) x y
  refine ⟨_,?_,z⟩
  unfold zjb
  rw [←e3,zpk (g:=fun p:zfd=>p.run.first) ok.nd hp]
  rfl
 ·obtain ⟨p,hp,_,rfl⟩:=pof e
  exact ⟨_,List.mem_map.mpr ⟨p,hp,rfl⟩,z⟩
def zL (a b:Nat):List Run→List zfd
 |[]=>[]
 |r::l=>match between a b r with
  |none=>zL a b l
  |some p=>⟨r,p.1,p.2⟩::zL a b l
theorem zce {a b:Nat}:∀{l:List Run} {p:zfd},p∈zL a b l↔p.run∈l∧between a b p.run=some (p.first,p.last)
 |[],p=>by simp [zL]
 |r::l,p=>by
  have ih:=zce (a:=a) (b:=b) (l:=l) (p:=p)
  unfold zL
  match e:between a b r with
  |none=>
   dsimp only
   rw [ih,List.mem_cons]
   constructor
   ·rintro ⟨h1,h2⟩
    exact ⟨.inr h1,h2⟩
   ·rintro ⟨h1,h2⟩
    rcases h1 with h1|h1
    ·rw [h1,e] at h2
     cases h2
    ·exact ⟨h1,h2⟩
  |some q=>
   dsimp only
   rw [List.mem_cons,ih,List.mem_cons]
   constructor
   ·rintro (h|⟨h1,h2⟩)
    ·subst h
     exact ⟨.inl rfl,e⟩
    ·exact ⟨.inr h1,h2⟩
   ·rintro ⟨h1|h1,h2⟩
    ·rw [h1,e] at h2
     have h2:=Option.some.inj h2
     left
     cases p
     simp only at h1 h2
     subst h1
     rw [h2]
    ·exact .inr ⟨h1,h2⟩
theorem zPk {a b:Nat}:∀{l:List Run},List.Sublist ((zL a b l).map fun p=>p.run.first) (l.map fun r=>r.first)
 |[]=>.slnil
 |r::l=>by
  unfold zL
  match e:between a b r with
  |none=>exact .cons _ zPk
  |some q=>exact .cons_cons _ zPk
theorem zkd:∀{l:List Run} {a b:Nat},zD a l b→(l.map fun r=>r.first).Nodup
 |[],_,_,_=>List.nodup_nil
 |r::l,a,b,h=>by
  rw [List.map_cons,List.nodup_cons]
  refine ⟨fun q=>?_,zkd h.2.2⟩
  obtain ⟨x,hx,e⟩:=List.mem_map.mp q
  have:=z7 h.2.2 hx
  have:=h.1
  have:=h.2.1
  omega
theorem zAi {a b:Nat} {l:List Run} {s t:Nat} (h:zD s l t):zck l (zL a b l) where
 nd:=List.Sublist.nodup zPk (zkd h)
 mem:=fun p hp=>(zce.mp hp).1
 lo:=fun p hp=>by
  have:=zxe (zce.mp hp).2
  dsimp only at this
  omega
 le:=fun p hp=>by
  have:=zxe (zce.mp hp).2
  exact this.2.2
 hi:=fun p hp=>by
  have:=zxe (zce.mp hp).2
  dsimp only at this
  omega
theorem zTq {a b:Nat} {l:List Run} {s t:Nat} (h:zD s l t) {r:Run} (hr:r∈l):zjb (zL a b l) r=between a b r:=by
 unfold zjb
 match e:between a b r with
 |some q=>
  have hm:(⟨r,q.1,q.2⟩:zfd)∈zL a b l:=zce.mpr ⟨hr,e⟩
  have z:=zpk (g:=fun p:zfd=>p.run.first) (zAi (a:=a) (b:=b) h).nd hm
  dsimp only at z
  rw [z]
  rfl
 |none=>
  cases f:(zL a b l).find? (fun p=>p.run.first==r.first) with
  |none=>rfl
  |some p=>
   have hp:=List.mem_of_find?_eq_some f
   have e1:p.run.first=r.first:=eq_of_beq (List.find?_some (p:=fun p:zfd=>p.run.first==r.first) f)
   obtain ⟨m1,m2⟩:=zce.mp hp
   have z1:=z7 h m1
   have z2:=z7 h hr
   have e2:p.run=r:=zng (n:=r.first) h m1 hr (by omega) (by omega) (by omega) (by omega)
   rw [e2,e] at m2
   cases m2
theorem zJn {f g:Run→Option (Nat×Nat)} {st:St}:∀{l acc:List Run},(∀r∈l,f r=g r)→l.foldl (zV f st) acc=l.foldl (zV g st) acc
 |[],_,_=>rfl
 |r::l,acc,h=>by
  show l.foldl (zV f st) (zV f st acc r)=l.foldl (zV g st) (zV g st acc r)
  have e:zV f st acc r=zV g st acc r:=by
   unfold zV
   rw [h r (List.mem_cons_self ..)]
  rw [e]
  exact zJn fun x hx=>h x (List.mem_cons_of_mem _ hx)
theorem z8g {a b:Nat} {st:St} {l:List Run} {t:Nat} (h:zD 1 l t) (hab:a≤b):z3c (zjb (zL a b l)) st l=changed a b (fun _=>st) l:=by
 rw [←zcs h hab]
 exact zJn fun r hr=>zTq h hr
end VM
namespace VM
open Vbemak
def z5c (a b:Run):Prop:=a.month < b.month∨(a.month=b.month∧a.first < b.first)
theorem zBr {a b:Run}:older a b=true↔z5c a b:=by
 unfold older z5c
 rw [Bool.or_eq_true,Bool.and_eq_true,decide_eq_true_eq,decide_eq_true_eq,beq_iff_eq]
theorem z5c.asymm {a b:Run} (h:z5c a b) (h':z5c b a):False:=by
 unfold z5c at h h'
 omega
theorem z5c.trans {a b c:Run} (h:z5c a b) (h':z5c b c):z5c a c:=by
 unfold z5c at *
 omega
theorem z0v {α:Type} {R:α→α→Prop} (hR:∀a b,R a b→R b a→False):∀{l l':List α},l.Perm l'→l.Pairwise R→l'.Pairwise R→l=l'
 |[],l',p,_,_=>(List.nil_perm.mp p).symm
 |a::l,l',p,h,h'=>by
  match l',p,h' with
  |[],p,_=>exact absurd (p.length_eq) (by simp)
  |b::l',p,h'=>
   have e:a=b:=by
    have m1:a∈b::l':=p.mem_iff.mp (List.mem_cons_self ..)
    have m2:b∈a::l:=p.mem_iff.mpr (List.mem_cons_self ..)
    rcases List.mem_cons.mp m1 with e|m1
    ·exact e
    ·rcases List.mem_cons.mp m2 with e|m2
     ·exact e.symm
     ·exact (hR a b ((List.pairwise_cons.mp h).1 b m2) ((List.pairwise_cons.mp h').1 a m1)).elim
   subst e
   rw [z0v hR (List.Perm.cons_inv p) (List.pairwise_cons.mp h).2 (List.pairwise_cons.mp h').2]
theorem zJk (x:Run):∀l:List Run,(putIn x l).Perm (x::l)
 |[]=>.refl _
 |y::l=>by
  unfold putIn
  by_cases h:older x y=true
  ·rw [if_pos h]
  ·rw [if_neg h]
   exact (List.Perm.cons y (zJk x l)).trans (List.Perm.swap x y l)
theorem zPc:∀l:List Run,(Vbemak.sorted l).Perm l
 |[]=>.refl _
 |x::l=>(zJk x (Vbemak.sorted l)).trans (List.Perm.cons x (zPc l))
theorem zMm {x:Run}:∀{l:List Run},l.Pairwise z5c→(∀y∈l,y.first≠x.first)→(putIn x l).Pairwise z5c
 |[],_,_=>List.pairwise_singleton ..
 |y::l,h,hx=>by
  obtain ⟨h1,h2⟩:=List.pairwise_cons.mp h
  unfold putIn
  by_cases c:older x y=true
  ·rw [if_pos c]
   have c:=zBr.mp c
   exact List.pairwise_cons.mpr ⟨fun z hz=>by
    rcases List.mem_cons.mp hz with rfl|hz
    ·exact c
    ·exact c.trans (h1 z hz),h⟩
  ·rw [if_neg c]
   have c:¬z5c x y:=fun z=>c (zBr.mpr z)
   have hy:=hx y (List.mem_cons_self ..)
   refine List.pairwise_cons.mpr ⟨fun z hz=>?_,zMm h2 fun z hz=>hx z (List.mem_cons_of_mem _ hz)⟩
   rcases List.mem_cons.mp ((zJk x l).mem_iff.mp hz) with rfl|hz
   ·unfold z5c at c ⊢
    omega
   ·exact h1 z hz
theorem zfl:∀{l:List Run},(l.map fun r=>r.first).Nodup→(Vbemak.sorted l).Pairwise z5c
 |[],_=>.nil
 |x::l,h=>by
  rw [List.map_cons,List.nodup_cons] at h
  refine zMm (zfl h.2) fun y hy e=>h.1 ?_
  exact List.mem_map.mpr ⟨y,(zPc l).mem_iff.mp hy,e⟩
theorem zHy {l out:List Run} (hn:(l.map fun r=>r.first).Nodup) (hp:out.Perm l) (hs:out.Pairwise z5c):out=Vbemak.sorted l:=
 z0v (fun _ _=>z5c.asymm) (hp.trans (zPc l).symm) hs (zfl hn)
def z3b:Nat→List Run→List zfd
 |_,[]=>[]
 |c,r::l=>if 0 < c then ⟨r,r.first,min r.last (r.first + c - 1)⟩::z3b (c - (min r.last (r.first + c - 1) + 1 - r.first)) l else z3b c l
theorem zhp:∀l:List Run,z3b 0 l=[]
 |[]=>rfl
 |r::l=>by
  unfold z3b
  rw [if_neg (by omega),zhp l]
theorem zjg:∀{l:List Run} {c:Nat},(∀r∈l,r.first≤r.last)→(z3b c l).map (fun p=>(p.first,p.last))=firsts c l
 |[],_,_=>rfl
 |r::l,c,h=>by
  have hr:=h r (List.mem_cons_self ..)
  have ht:∀x∈l,x.first≤x.last:=fun x hx=>h x (List.mem_cons_of_mem _ hx)
  unfold z3b firsts
  by_cases c0:c=0
  ·subst c0
   rw [if_neg (by omega),if_pos rfl,zhp]
   rfl
  ·rw [if_pos (by omega),if_neg c0,List.map_cons,zjg ht]
   unfold size
   by_cases q:r.last + 1 - r.first≤c
   ·rw [if_pos q]
    have e:min r.last (r.first + c - 1)=r.last:=by omega
    dsimp only
    rw [e]
   ·rw [if_neg q]
    have e:min r.last (r.first + c - 1)=r.first + c - 1:=by omega
    dsimp only
    rw [e]
    have e2:c - (r.first + c - 1 + 1 - r.first)=0:=by omega
    rw [e2]
    cases l<;>rfl
theorem zQe:∀{l:List Run} {c:Nat} {p:zfd},(∀r∈l,r.first≤r.last)→p∈z3b c l→p.run∈l∧p.first=p.run.first∧p.first≤p.last∧p.last≤p.run.last
 |[],c,p,_,h=>by simp [z3b] at h
 |r::l,c,p,hl,h=>by
  have hr:=hl r (List.mem_cons_self ..)
  unfold z3b at h
  by_cases q:0 < c
  ·rw [if_pos q] at h
   rcases List.mem_cons.mp h with rfl|h
   ·refine ⟨List.mem_cons_self ..,rfl,?_,?_⟩
    ·show r.first≤min r.last (r.first + c - 1)
     omega
    ·show min r.last (r.first + c - 1)≤r.last
     omega
   ·obtain ⟨h1,h2⟩:=zQe (fun x hx=>hl x (List.mem_cons_of_mem _ hx)) h
    exact ⟨List.mem_cons_of_mem _ h1,h2⟩
  ·rw [if_neg q] at h
   obtain ⟨h1,h2⟩:=zQe (fun x hx=>hl x (List.mem_cons_of_mem _ hx)) h
   exact ⟨List.mem_cons_of_mem _ h1,h2⟩
theorem zUl:∀{l:List Run} {c:Nat},List.Sublist ((z3b c l).map fun p=>p.run.first) (l.map fun r=>r.first)
 |[],_=>.slnil
 |r::l,c=>by
  unfold z3b
  by_cases q:0 < c
  ·rw [if_pos q]
   exact .cons_cons _ zUl
  ·rw [if_neg q]
   exact .cons _ zUl
theorem zpo {l m:List Run} {c s t:Nat} (h:zD s l t) (hm:∀r∈m,r∈l) (nd:(m.map fun r=>r.first).Nodup):zck l (z3b c m):=
 have hl:∀r∈m,r.first≤r.last:=fun r hr=>(z7 h (hm r hr)).2.1
 ⟨List.Sublist.nodup zUl nd,fun p hp=>hm _ (zQe hl hp).1,fun p hp=>Nat.le_of_eq (zQe hl hp).2.1.symm,fun p hp=>(zQe hl hp).2.2.1,fun p hp=>(zQe hl hp).2.2.2⟩
theorem zOf {l m:List Run} (h:List.Sublist m l):List.Sublist (m.map fun r=>r.first) (l.map fun r=>r.first):=h.map _
theorem z4w {l:List Run} {q:Run→Bool} {c t:Nat} {st:St} (h:zD 1 l t) (ha:Apart l):
  z3c (zjb (z3b c (Vbemak.sorted (l.filter q)))) st l=changedAll (firsts c (Vbemak.sorted (l.filter q))) (fun _=>st) l:=by
 have pm:=zPc (l.filter q)
 have hm:∀r∈Vbemak.sorted (l.filter q),r∈l:=fun r hr=>(List.mem_filter.mp (pm.mem_iff.mp hr)).1
 have nd:((Vbemak.sorted (l.filter q)).map fun r=>r.first).Nodup:=(pm.map _).nodup_iff.mpr (List.Sublist.nodup (zOf List.filter_sublist) (zkd h))
 rw [zVn h ha (zpo h hm nd),zjg fun r hr=>(z7 h (hm r hr)).2.1]
theorem z8t {a b:Nat} (q:Run→Bool):∀{l:List Run},(∀r∈l,r.first≤r.last)→a≤b→(zL a b l).all (fun p=>q p.run)=allIn a b q l
 |[],_,_=>rfl
 |r::l,h,hab=>by
  have hr:=h r (List.mem_cons_self ..)
  have ih:=z8t q (l:=l) (fun x hx=>h x (List.mem_cons_of_mem _ hx)) hab
  unfold allIn at ih ⊢
  rw [List.all_cons,←ih]
  by_cases c:max r.first a≤min r.last b
  ·have e:zL a b (r::l)=⟨r,max r.first a,min r.last b⟩::zL a b l:=by
    show (match between a b r with
     |none=>zL a b l
     |some p=>⟨r,p.1,p.2⟩::zL a b l)=_
    rw [show between a b r=some (max r.first a,min r.last b) from if_pos c]
   rw [e,List.all_cons,decide_eq_false (show ¬r.last < a by omega),decide_eq_false (show ¬b < r.first by omega)]
   rfl
  ·have e:zL a b (r::l)=zL a b l:=by
    show (match between a b r with
     |none=>zL a b l
     |some p=>⟨r,p.1,p.2⟩::zL a b l)=_
    rw [show between a b r=none from if_neg c]
   rw [e]
   by_cases d:r.last < a
   ·rw [decide_eq_true d]
    rfl
   ·rw [decide_eq_false d,decide_eq_true (show b < r.first by omega)]
    rfl
theorem count_cons (r:Run) (l:List Run):count (r::l)=size r + count l:=by
 unfold count
 rw [List.map_cons,List.sum_cons]
theorem zep {l l':List Run} (h:l.Perm l'):count l=count l':=by
 induction h with
 |nil=>rfl
 |cons x _ ih=>rw [count_cons,count_cons,ih]
 |swap x y l=>rw [count_cons,count_cons,count_cons,count_cons];omega
 |trans _ _ ih1 ih2=>exact ih1.trans ih2
theorem z2d:∀{l:List Run},(∀r∈l,r.first≤r.last)→(l.map fun r=>(r.last:Int) - r.first + 1).sum=(count l:Int)
 |[],_=>rfl
 |r::l,h=>by
  have hr:=h r (List.mem_cons_self ..)
  rw [List.map_cons,List.sum_cons,z2d (fun x hx=>h x (List.mem_cons_of_mem _ hx)),count_cons]
  unfold size
  omega
theorem zTp (l:List Run) (r:Run):(zpe l r).length≤l.length + 1:=by
 rcases List.eq_nil_or_concat l with rfl|⟨m,x,rfl⟩
 ·exact Nat.le_refl _
 ·rw [List.concat_eq_append,zmj]
  by_cases q:zCb x=zCb r
  ·rw [if_pos q]
   simp
  ·rw [if_neg q]
   simp
theorem zUf (acc:List Run) (r:Run) (a b:Nat) (st:St):(zPb acc r a b st).length≤acc.length + 1:=by
 unfold zPb
 by_cases q:a≤b
 ·rw [if_pos q]
  exact zTp _ _
 ·rw [if_neg q]
  omega
theorem zVt (f:Run→Option (Nat×Nat)) (st:St) (acc:List Run) (r:Run):(zV f st acc r).length≤acc.length + 3:=by
 unfold zV
 match f r with
 |none=>
  have:=zTp acc r
  dsimp only
  omega
 |some p=>
  have h1:=zUf acc r r.first (p.1 - 1) r.st
  have h2:=zUf (zPb acc r r.first (p.1 - 1) r.st) r p.1 p.2 st
  have h3:=zUf (zPb (zPb acc r r.first (p.1 - 1) r.st) r p.1 p.2 st) r (p.2 + 1) r.last r.st
  dsimp only
  omega
theorem zkm (f:Run→Option (Nat×Nat)) (st:St):∀(l acc:List Run),(l.foldl (zV f st) acc).length≤acc.length + 3 * l.length
 |[],acc=>by simp
 |r::l,acc=>by
  have h1:=zkm f st l (zV f st acc r)
  have h2:=zVt f st acc r
  rw [List.length_cons]
  show (l.foldl (zV f st) (zV f st acc r)).length≤_
  omega
def zNg (g:Lab→St) (r:Run):Run:={ r with st:=g (zCb r) }
theorem zhC (a:Run) (l:List Run):(jn a l).length≤l.length + 1:=by
 cases l with
 |nil=>exact Nat.le_refl _
 |cons b t=>
  by_cases q:alike a b=true
  ·rw [show jn a (b::t)={ a with last:=b.last }::t from if_pos q]
   simp
  ·rw [show jn a (b::t)=a::b::t from if_neg q]
   simp
theorem zHk:∀l:List Run,(joined l).length≤l.length
 |[]=>Nat.le_refl _
 |a::l=>by
  rw [zSn]
  have:=zhC a (joined l)
  have:=zHk l
  rw [List.length_cons]
  omega
theorem zqu (g:Lab→St) {l:List Run} {s t:Nat} (h:zD s l t):zD s (joined (l.map (zNg g))) t∧Apart (joined (l.map (zNg g)))∧∀n,lab (joined (l.map (zNg g))) n=(lab l n).map fun x=>zte (g x) x:=by
 have hf:∀r:Run,(zNg g r).first=r.first∧(zNg g r).last=r.last:=fun r=>⟨rfl,rfl⟩
 obtain ⟨j1,j2,j3⟩:=zTf (zvk hf h)
 refine ⟨j1,j2,fun n=>?_⟩
 rw [j3,zCh hf (g:=fun x=>zte (g x) x)]
 intro r _ _ _
 rfl
theorem few {l l':List Run} {s t:Nat} {g:Lab→St} (h:zD s l t) (h':zD s l' t) (p':Apart l') (e:∀n,s≤n→n < t→lab l' n=(lab l n).map fun x=>zte (g x) x):l'=joined (l.map (zNg g))∧l'.length≤l.length:=by
 obtain ⟨j1,j2,j3⟩:=zqu g h
 have q:l'=joined (l.map (zNg g)):=uniq h' j1 p' j2 fun n x y=>by rw [e n x y,j3]
 refine ⟨q,?_⟩
 rw [q]
 have:=zHk (l.map (zNg g))
 rw [List.length_map] at this
 exact this
end VM
namespace VM
open Vbemak
def grM:Nat→List Run→List zfd
 |_,[]=>[]
 |c,r::l=>if 0 < c then ⟨r,max r.first (r.last + 1 - c),r.last⟩::grM (c - (r.last + 1 - max r.first (r.last + 1 - c))) l else grM c l
theorem zHt:∀l:List Run,grM 0 l=[]
 |[]=>rfl
 |r::l=>by
  unfold grM
  rw [if_neg (by omega),zHt l]
theorem zBi:∀{l:List Run} {c:Nat},(∀r∈l,r.first≤r.last)→(grM c l).map (fun p=>(p.first,p.last))=lasts c l
 |[],_,_=>rfl
 |r::l,c,h=>by
  have hr:=h r (List.mem_cons_self ..)
  have ht:∀x∈l,x.first≤x.last:=fun x hx=>h x (List.mem_cons_of_mem _ hx)
  unfold grM lasts
  by_cases c0:c=0
  ·subst c0
   rw [if_neg (by omega),if_pos rfl,zHt]
   rfl
  ·rw [if_pos (by omega),if_neg c0,List.map_cons,zBi ht]
   unfold size
   by_cases q:r.last + 1 - r.first≤c
   ·rw [if_pos q]
    have e:max r.first (r.last + 1 - c)=r.first:=by omega
    dsimp only
    rw [e]
   ·rw [if_neg q]
    have e:max r.first (r.last + 1 - c)=r.last + 1 - c:=by omega
    dsimp only
    rw [e]
    have e2:c - (r.last + 1 - (r.last + 1 - c))=0:=by omega
    rw [e2]
    cases l<;>rfl
theorem zFg:∀{l:List Run} {c:Nat} {p:zfd},(∀r∈l,r.first≤r.last)→p∈grM c l→p.run∈l∧p.run.first≤p.first∧p.first≤p.last∧p.last=p.run.last
 |[],c,p,_,h=>by simp [grM] at h
 |r::l,c,p,hl,h=>by
  have hr:=hl r (List.mem_cons_self ..)
  unfold grM at h
  by_cases q:0 < c
  ·rw [if_pos q] at h
   rcases List.mem_cons.mp h with rfl|h
   ·refine ⟨List.mem_cons_self ..,?_,?_,rfl⟩
    ·show r.first≤max r.first (r.last + 1 - c)
     omega
    ·show max r.first (r.last + 1 - c)≤r.last
     omega
   ·obtain ⟨h1,h2⟩:=zFg (fun x hx=>hl x (List.mem_cons_of_mem _ hx)) h
    exact ⟨List.mem_cons_of_mem _ h1,h2⟩
  ·rw [if_neg q] at h
   obtain ⟨h1,h2⟩:=zFg (fun x hx=>hl x (List.mem_cons_of_mem _ hx)) h
   exact ⟨List.mem_cons_of_mem _ h1,h2⟩
theorem zKq:∀{l:List Run} {c:Nat},List.Sublist ((grM c l).map fun p=>p.run.first) (l.map fun r=>r.first)
 |[],_=>.slnil
 |r::l,c=>by
  unfold grM
  by_cases q:0 < c
  ·rw [if_pos q]
   exact .cons_cons _ zKq
  ·rw [if_neg q]
   exact .cons _ zKq
theorem zbu {l m:List Run} {c s t:Nat} (h:zD s l t) (hm:∀r∈m,r∈l) (nd:(m.map fun r=>r.first).Nodup):zck l (grM c m):=
 have hl:∀r∈m,r.first≤r.last:=fun r hr=>(z7 h (hm r hr)).2.1
 ⟨List.Sublist.nodup zKq nd,fun p hp=>hm _ (zFg hl hp).1,fun p hp=>(zFg hl hp).2.1,fun p hp=>(zFg hl hp).2.2.1,fun p hp=>Nat.le_of_eq (zFg hl hp).2.2.2⟩
theorem zEw {l:List Run} {q:Run→Bool} {c t:Nat} {st:St} (h:zD 1 l t) (ha:Apart l):
  z3c (zjb (grM c (l.filter q).reverse)) st l=changedAll (lasts c (l.filter q).reverse) (fun _=>st) l:=by
 have hm:∀r∈(l.filter q).reverse,r∈l:=fun r hr=>(List.mem_filter.mp (List.mem_reverse.mp hr)).1
 have nd:(((l.filter q).reverse).map fun r=>r.first).Nodup:=by
  rw [List.map_reverse]
  exact (List.reverse_perm _).nodup_iff.mpr (List.Sublist.nodup (zOf List.filter_sublist) (zkd h))
 rw [zVn h ha (zbu h hm nd),zBi fun r hr=>(z7 h (hm r hr)).2.1]
def atM (g:Run→St) (l:List Run):List Run:=l.foldl (fun acc r=>zPb acc r r.first r.last (g r)) []
theorem zFr {g:Run→St} {s t:Nat}:∀{l acc:List Run} {b:Nat},zD s acc b→Apart acc→zD b l t→s≤b→
  zD s (l.foldl (fun acc r=>zPb acc r r.first r.last (g r)) acc) t∧Apart (l.foldl (fun acc r=>zPb acc r r.first r.last (g r)) acc)∧
  ∀n,s≤n→lab (l.foldl (fun acc r=>zPb acc r r.first r.last (g r)) acc) n=if n < b then lab acc n else lab (l.map fun r=>{ r with st:=g r }) n
 |[],acc,b,h,p,hl,hs=>by
  have e:t=b:=hl
  subst e
  refine ⟨h,p,fun n hn=>?_⟩
  show lab acc n=if n < t then lab acc n else none
  by_cases q:n < t
  ·rw [if_pos q]
  ·rw [if_neg q]
   exact zsm h (by omega)
 |r::l,acc,b,h,p,hl,hs=>by
  have hf:=hl.1
  have hle:=hl.2.1
  obtain ⟨a1,a2,a3⟩:=zBk (acc:=acc) (r:=r) (x:=r.first) (y:=r.last) (st:=g r) h p hf (by omega)
  obtain ⟨i1,i2,i3⟩:=zFr (g:=g) (t:=t) a1 a2 hl.2.2 (by omega)
  refine ⟨i1,i2,fun n hn=>?_⟩
  rw [show (r::l).foldl (fun acc r=>zPb acc r r.first r.last (g r)) acc=l.foldl (fun acc r=>zPb acc r r.first r.last (g r)) (zPb acc r r.first r.last (g r)) from rfl,i3 n hn,List.map_cons]
  by_cases q:n < b
  ·rw [if_pos (by omega),if_pos q,a3,if_neg (by omega)]
  ·rw [if_neg q]
   by_cases q2:n < r.last + 1
   ·rw [if_pos q2,a3,if_pos (by omega),zN (by dsimp only;omega)]
    rfl
   ·rw [if_neg q2,zQ (by dsimp only;omega)]
theorem z6w {g:Run→St} {l:List Run} {t:Nat} (h:zD 1 l t):atM g l=joined (l.map fun r=>{ r with st:=g r }):=by
 have hf:∀r:Run,({ r with st:=g r }:Run).first=r.first∧({ r with st:=g r }:Run).last=r.last:=fun r=>⟨rfl,rfl⟩
 obtain ⟨j1,j2,j3⟩:=zTf (zvk hf h)
 obtain ⟨i1,i2,i3⟩:=zFr (g:=g) (s:=1) (acc:=[]) (b:=1) rfl trivial h (Nat.le_refl _)
 refine uniq i1 j1 i2 j2 fun n h1 h2=>?_
 rw [j3]
 unfold atM
 rw [i3 n h1,if_neg (by omega)]
def zoe (life now:Nat) (r:Run):St:=late life now { r with st:=back r }
theorem zGw {life now:Nat} {l:List Run} {t:Nat} (h:zD 1 l t):ticked life now l=atM (zoe life now) l:=by
 rw [z6w h]
 unfold ticked
 rw [List.map_map]
 rfl
theorem ziq:∀{l:List Run} {n:Nat} {x:Lab},lab l n=some x→∃r∈l,r.first≤n∧n≤r.last∧x=zCb r
 |[],n,x,h=>by cases h
 |r::l,n,x,h=>by
  by_cases q:r.first≤n∧n≤r.last
  ·rw [zN q] at h
   exact ⟨r,List.mem_cons_self ..,q.1,q.2,(Option.some.inj h).symm⟩
  ·rw [zQ q] at h
   obtain ⟨r',h1,h2⟩:=ziq h
   exact ⟨r',List.mem_cons_of_mem _ h1,h2⟩
theorem zZv:∀{l:List Run} {a b n:Nat} {r:Run},zD a l b→r∈l→r.first≤n→n≤r.last→lab l n=some (zCb r):=fun {l a b n r} h hr h1 h2=>by
 have h3:=z7 h hr
 obtain ⟨x,hx⟩:=zvo h (show a≤n by omega) (show n < b by omega)
 obtain ⟨r',m',c1,c2,rfl⟩:=ziq hx
 rw [hx,zng h hr m' h1 h2 c1 c2]
end VM
namespace VM
open Vbemak
def TLt (a b:Total):Prop:=a.device < b.device∨(a.device=b.device∧a.month < b.month)
def z8i:St→Bool
 |.offered _ _=>true
 |_=>false
structure SInv (s:State):Prop where
 tiles:zD 1 s.runs (s.given + 1)
 apart:Apart s.runs
 nruns:s.runs.length≤256
 ngiven:s.given≤1000000000
 nacc:s.accounts≤32
 ndev:s.devices.length≤16
 tech:∀d∈s.devices,d.tech≤9
 dev:∀n x,lab s.runs n=some x→1≤x.1∧x.1≤s.devices.length
 ntot:s.totals.length≤256
 tot:∀t∈s.totals,1≤t.device∧t.device≤s.devices.length
 tots:s.totals.Pairwise TLt
 noff:s.offers.length≤32
 nmade:s.offered≤1000000000
 offs:s.offers.Pairwise fun a b=>a.num < b.num
 offn:∀o∈s.offers,1≤o.num∧o.num≤s.offered
 offr:∀o∈s.offers,1≤o.first∧o.first≤o.last∧o.last≤s.given∧∀n,o.first≤n→n≤o.last→∃d m,lab s.runs n=some (d,m,.offered o.from_ o.num)
 offc:∀n d m h k,lab s.runs n=some (d,m,.offered h k)→∃o∈s.offers,o.num=k∧o.from_=h∧o.first≤n∧n≤o.last
theorem SInv.start:SInv Vbemak.start:=by
 refine ⟨rfl,trivial,?_,?_,?_,?_,?_,?_,?_,?_,?_,?_,?_,?_,?_,?_,?_⟩<;>simp [Vbemak.start,lab]
def Rg:Call→Prop
 |.device h t=>1≤h∧t≤9
 |.offer _ _ a _=>1≤a
 |.move _ _ a _=>1≤a
 |.cancel _ a _ _=>1≤a
 |.meter d _ _=>1≤d
 |.issue d _=>1≤d
 |_=>True
theorem SInv.setRuns {s:State} (I:SInv s) {l:List Run} (t:zD 1 l (s.given + 1)) (p:Apart l) (hn:l.length≤256) (hd:∀n x,lab l n=some x→∃y,lab s.runs n=some y∧x.1=y.1)
  (ho:∀n d m h k,lab l n=some (d,m,.offered h k)↔lab s.runs n=some (d,m,.offered h k)):SInv { s with runs:=l } where
 tiles:=t
 apart:=p
 nruns:=hn
 ngiven:=I.ngiven
 nacc:=I.nacc
 ndev:=I.ndev
 tech:=I.tech
 dev:=fun n x e=>by
  obtain ⟨y,h1,h2⟩:=hd n x e
  rw [h2]
  exact I.dev n y h1
 ntot:=I.ntot
 tot:=I.tot
 tots:=I.tots
 noff:=I.noff
 nmade:=I.nmade
 offs:=I.offs
 offn:=I.offn
 offr:=fun o ho'=>by
  obtain ⟨h1,h2,h3,h4⟩:=I.offr o ho'
  refine ⟨h1,h2,h3,fun n a b=>?_⟩
  obtain ⟨d,m,e⟩:=h4 n a b
  exact ⟨d,m,(ho ..).mpr e⟩
 offc:=fun n d m h k e=>I.offc n d m h k ((ho ..).mp e)
theorem SInv.chg {s:State} (I:SInv s) {l:List Run} {S:Nat→Prop} [DecidablePred S] {st:St} (hst:z8i st=false) (t:zD 1 l (s.given + 1)) (p:Apart l) (hn:l.length≤256)
  (hl:∀n,lab l n=if S n then (lab s.runs n).map (zte st) else lab s.runs n) (hS:∀n x,S n→lab s.runs n=some x→z8i x.2.2=false):SInv { s with runs:=l }:=by
 refine I.setRuns t p hn (fun n x e=>?_) fun n d m h k=>⟨fun e=>?_,fun e=>?_⟩
 ·rw [hl] at e
  by_cases q:S n
  ·rw [if_pos q] at e
   cases z:lab s.runs n with
   |none=>
    rw [z] at e
    cases e
   |some y=>
    rw [z] at e
    have e:=Option.some.inj e
    subst e
    exact ⟨y,rfl,rfl⟩
  ·rw [if_neg q] at e
   exact ⟨x,e,rfl⟩
 ·rw [hl] at e
  by_cases q:S n
  ·rw [if_pos q] at e
   cases z:lab s.runs n with
   |none=>
    rw [z] at e
    cases e
   |some y=>
    rw [z] at e
    have e:=Option.some.inj e
    have e2:st=.offered h k:=congrArg (fun x:Lab=>x.2.2) e
    rw [e2] at hst
    cases hst
  ·rw [if_neg q] at e
   exact e
 ·rw [hl]
  by_cases q:S n
  ·have:=hS n _ q e
   cases this
  ·rw [if_neg q]
   exact e
theorem zRc {s t:State} {l:List Run} {a b:List Int} (h:withRuns s l a=.ok (t,b)):l.length≤256∧t={ s with runs:=l }∧b=a:=by
 unfold withRuns at h
 by_cases q:RUNS < l.length
 ·rw [if_pos q] at h
  cases h
 ·rw [if_neg q] at h
  injection h with h
  injection h with h1 h2
  exact ⟨Nat.le_of_not_lt q,h1.symm,h2.symm⟩
theorem z1m {s:State} {h a b:Nat} (I:SInv s) (m:mine s h a b=true):a≤b∧b≤s.given∧∀n x,a≤n→n≤b→lab s.runs n=some x→x.2.2=.live h:=by
 unfold mine at m
 rw [Bool.and_eq_true,Bool.and_eq_true] at m
 obtain ⟨m1,m2,m3⟩:=m
 refine ⟨of_decide_eq_true m1,of_decide_eq_true m2,fun n x h1 h2 e=>?_⟩
 obtain ⟨r,hr,c1,c2,rfl⟩:=ziq e
 have:=List.all_eq_true.mp m3 r hr
 simp only [Bool.or_eq_true,decide_eq_true_eq] at this
 rcases this with q|q|q
 ·omega
 ·omega
 ·exact q
theorem SInv.stretch {s:State} {h a b:Nat} {st:St} (I:SInv s) (m:mine s h a b=true) (hst:z8i st=false) (hn:(changed a b (fun _=>st) s.runs).length≤256):SInv { s with runs:=changed a b (fun _=>st) s.runs }:=by
 obtain ⟨m1,m2,m3⟩:=z1m I m
 obtain ⟨c1,c2,c3⟩:=z7d (st:=st) I.tiles m1
 refine I.chg (S:=fun n=>a≤n∧n≤b) hst c1 c2 hn c3 fun n x q e=>?_
 rw [m3 n x q.1 q.2 e]
 rfl
theorem SInv.part {s:State} {st:St} {ps:List zfd} (I:SInv s) (ok:zck s.runs ps) (hl:∀p∈ps,z8i p.run.st=false) (hst:z8i st=false)
  (hn:(changedAll (ps.map fun p=>(p.first,p.last)) (fun _=>st) s.runs).length≤256):SInv { s with runs:=changedAll (ps.map fun p=>(p.first,p.last)) (fun _=>st) s.runs }:=by
 obtain ⟨c1,c2,c3⟩:=zeh (st:=st) (ps:=ps.map fun p=>(p.first,p.last)) I.tiles I.apart (fun q hq=>by
  obtain ⟨p,hp,rfl⟩:=List.mem_map.mp hq
  exact ok.le p hp)
 refine I.chg (S:=fun n=>∃p∈List.map (fun p:zfd=>(p.first,p.last)) ps,p.1≤n∧n≤p.2) hst c1 c2 hn c3 fun n x q e=>?_
 obtain ⟨q,hq,h1,h2⟩:=q
 obtain ⟨p,hp,rfl⟩:=List.mem_map.mp hq
 have l1:=ok.lo p hp
 have l2:=ok.hi p hp
 dsimp only at h1 h2
 rw [zZv I.tiles (ok.mem p hp) (show p.run.first≤n by omega) (show n≤p.run.last by omega)] at e
 have e:=Option.some.inj e
 subst e
 exact hl p hp
theorem zWe {s:State} {h:Nat} {tech:Option Nat} {r:Run} (hr:r∈liveOf s h tech):r∈s.runs∧r.st=.live h:=by
 obtain ⟨h1,h2⟩:=List.mem_filter.mp hr
 rw [Bool.and_eq_true] at h2
 exact ⟨h1,of_decide_eq_true h2.1⟩
theorem SInv.fsts {s:State} {h c:Nat} {tech:Option Nat} {st:St} (I:SInv s) (hst:z8i st=false) (hn:(changedAll (firsts c (sorted (liveOf s h tech))) (fun _=>st) s.runs).length≤256):
  SInv { s with runs:=changedAll (firsts c (sorted (liveOf s h tech))) (fun _=>st) s.runs }:=by
 have pm:=zPc (liveOf s h tech)
 have hm:∀r∈sorted (liveOf s h tech),r∈s.runs:=fun r hr=>(zWe (pm.mem_iff.mp hr)).1
 have nd:((sorted (liveOf s h tech)).map fun r=>r.first).Nodup:=(pm.map _).nodup_iff.mpr (List.Sublist.nodup (zOf List.filter_sublist) (zkd I.tiles))
 have hf:∀r∈sorted (liveOf s h tech),r.first≤r.last:=fun r hr=>(z7 I.tiles (hm r hr)).2.1
 rw [←zjg hf] at hn ⊢
 refine I.part (zpo I.tiles hm nd) (fun p hp=>?_) hst hn
 rw [(zWe (pm.mem_iff.mp (zQe hf hp).1)).2]
 rfl
theorem SInv.lsts {s:State} {h c:Nat} {q:Run→Bool} {st:St} (I:SInv s) (hst:z8i st=false) (hn:(changedAll (lasts c ((liveOf s h none).filter q).reverse) (fun _=>st) s.runs).length≤256):
  SInv { s with runs:=changedAll (lasts c ((liveOf s h none).filter q).reverse) (fun _=>st) s.runs }:=by
 have hm:∀r∈((liveOf s h none).filter q).reverse,r∈liveOf s h none:=fun r hr=>(List.mem_filter.mp (List.mem_reverse.mp hr)).1
 have hm2:∀r∈((liveOf s h none).filter q).reverse,r∈s.runs:=fun r hr=>(zWe (hm r hr)).1
 have nd:((((liveOf s h none).filter q).reverse).map fun r=>r.first).Nodup:=by
  rw [List.map_reverse]
  exact (List.reverse_perm _).nodup_iff.mpr (List.Sublist.nodup (zOf (List.filter_sublist.trans List.filter_sublist)) (zkd I.tiles))
 have hf:∀r∈((liveOf s h none).filter q).reverse,r.first≤r.last:=fun r hr=>(z7 I.tiles (hm2 r hr)).2.1
 rw [←zBi hf] at hn ⊢
 refine I.part (zbu I.tiles hm2 nd) (fun p hp=>?_) hst hn
 rw [(zWe (hm _ (zFg hf hp).1)).2]
 rfl
theorem zFd (g:Device→Device):∀(l:List Device) (i:Nat),(setDevice g i l).length=l.length
 |[],0=>rfl
 |[],_ + 1=>rfl
 |x::r,0=>rfl
 |x::r,i + 1=>by
  show (x::setDevice g i r).length=_
  rw [List.length_cons,List.length_cons,zFd g r i]
theorem z9k {g:Device→Device} {d:Device}:∀{l:List Device} {i:Nat},d∈setDevice g i l→d∈l∨∃x∈l,d=g x
 |[],0,h=>nomatch h
 |[],_ + 1,h=>nomatch h
 |x::r,0,h=>by
  rcases List.mem_cons.mp h with e|h
  ·exact .inr ⟨x,List.mem_cons_self ..,e⟩
  ·exact .inl (List.mem_cons_of_mem _ h)
 |x::r,i + 1,h=>by
  rcases List.mem_cons.mp h with e|h
  ·exact .inl (e ▸ List.mem_cons_self ..)
  ·rcases z9k h with h|⟨y,h1,h2⟩
   ·exact .inl (List.mem_cons_of_mem _ h)
   ·exact .inr ⟨y,List.mem_cons_of_mem _ h1,h2⟩
theorem SInv.setDev {s:State} (I:SInv s) (d:Nat) {g:Device→Device} (hg:∀x,(g x).tech=x.tech):SInv (changedDevice s d g) where
 tiles:=I.tiles
 apart:=I.apart
 nruns:=I.nruns
 ngiven:=I.ngiven
 nacc:=I.nacc
 ndev:=by
  show (setDevice g (d - 1) s.devices).length≤16
  rw [zFd]
  exact I.ndev
 tech:=fun x hx=>by
  rcases z9k hx with h|⟨y,h,e⟩
  ·exact I.tech x h
  ·rw [e,hg]
   exact I.tech y h
 dev:=fun n x e=>by
  show _∧_≤(setDevice g (d - 1) s.devices).length
  rw [zFd]
  exact I.dev n x e
 ntot:=I.ntot
 tot:=fun t ht=>by
  show _∧_≤(setDevice g (d - 1) s.devices).length
  rw [zFd]
  exact I.tot t ht
 tots:=I.tots
 noff:=I.noff
 nmade:=I.nmade
 offs:=I.offs
 offn:=I.offn
 offr:=I.offr
 offc:=I.offc
def sameKey (x t:Total):Bool:=t.device==x.device&&t.month==x.month
theorem znf {x t:Total}:sameKey x t=true↔t.device=x.device∧t.month=x.month:=by
 unfold sameKey
 rw [Bool.and_eq_true,beq_iff_eq,beq_iff_eq]
theorem zih (x y:Total) (r:List Total):putTotal x (y::r)=if x.device=y.device∧x.month=y.month then x::r else if x.device < y.device∨(x.device=y.device∧x.month < y.month) then x::y::r else y::putTotal x r:=rfl
theorem zeg {x t:Total}:∀{l:List Total},t∈putTotal x l→t=x∨t∈l
 |[],h=>.inl (List.mem_singleton.mp h)
 |y::r,h=>by
  rw [zih] at h
  by_cases c1:x.device=y.device∧x.month=y.month
  ·rw [if_pos c1] at h
   rcases List.mem_cons.mp h with h|h
   ·exact .inl h
   ·exact .inr (List.mem_cons_of_mem _ h)
  ·rw [if_neg c1] at h
   by_cases c2:x.device < y.device∨(x.device=y.device∧x.month < y.month)
   ·rw [if_pos c2] at h
    rcases List.mem_cons.mp h with h|h
    ·exact .inl h
    ·exact .inr h
   ·rw [if_neg c2] at h
    rcases List.mem_cons.mp h with h|h
    ·exact .inr (h ▸ List.mem_cons_self ..)
    ·rcases zeg h with h|h
     ·exact .inl h
     ·exact .inr (List.mem_cons_of_mem _ h)
theorem zGi {x:Total}:∀{l:List Total},l.Pairwise TLt→(putTotal x l).Pairwise TLt
 |[],_=>List.pairwise_singleton ..
 |y::r,h=>by
  obtain ⟨h1,h2⟩:=List.pairwise_cons.mp h
  rw [zih]
  by_cases c1:x.device=y.device∧x.month=y.month
  ·rw [if_pos c1]
   refine List.pairwise_cons.mpr ⟨fun z hz=>?_,h2⟩
   have:=h1 z hz
   unfold TLt at this ⊢
   rw [c1.1,c1.2]
   exact this
  ·rw [if_neg c1]
   by_cases c2:x.device < y.device∨(x.device=y.device∧x.month < y.month)
   ·rw [if_pos c2]
    refine List.pairwise_cons.mpr ⟨fun z hz=>?_,h⟩
    rcases List.mem_cons.mp hz with e|hz
    ·rw [e]
     exact c2
    ·have:=h1 z hz
     unfold TLt at this ⊢
     omega
   ·rw [if_neg c2]
    refine List.pairwise_cons.mpr ⟨fun z hz=>?_,zGi h2⟩
    rcases zeg hz with e|hz
    ·rw [e]
     unfold TLt
     omega
    ·exact h1 z hz
theorem z5g {x:Total}:∀{l:List Total},l.Pairwise TLt→(putTotal x l).Perm (x::l.filter fun t=>!sameKey x t)
 |[],_=>List.Perm.refl _
 |y::r,h=>by
  obtain ⟨h1,h2⟩:=List.pairwise_cons.mp h
  rw [zih]
  have all:(∀z∈r,¬(z.device=x.device∧z.month=x.month))→r.filter (fun t=>!sameKey x t)=r:=fun q=>List.filter_eq_self.mpr fun z hz=>by
   cases e:sameKey x z with
   |false=>rfl
   |true=>exact absurd (znf.mp e) (q z hz)
  by_cases c1:x.device=y.device∧x.month=y.month
  ·rw [if_pos c1]
   have e1:sameKey x y=true:=znf.mpr ⟨c1.1.symm,c1.2.symm⟩
   rw [List.filter_cons_of_neg (by rw [e1];decide),all]
   intro z hz q
   have:=h1 z hz
   unfold TLt at this
   omega
  ·rw [if_neg c1]
   have e1:sameKey x y=false:=by
    cases e:sameKey x y with
    |false=>rfl
    |true=>exact absurd ⟨(znf.mp e).1.symm,(znf.mp e).2.symm⟩ c1
   rw [List.filter_cons_of_pos (by rw [e1];rfl)]
   by_cases c2:x.device < y.device∨(x.device=y.device∧x.month < y.month)
   ·rw [if_pos c2,all]
    intro z hz q
    have:=h1 z hz
    unfold TLt at this
    omega
   ·rw [if_neg c2]
    exact ((z5g h2).cons y).trans (List.Perm.swap ..)
theorem zHp {α:Type} {p:α→Bool}:∀{l:List α},l.any p=true→(l.filter fun x=>!p x).length + 1≤l.length
 |[],h=>by cases h
 |a::l,h=>by
  by_cases q:p a=true
  ·rw [List.filter_cons_of_neg (by rw [q];decide),List.length_cons]
   exact Nat.succ_le_succ (List.length_filter_le ..)
  ·rw [List.filter_cons_of_pos (by simpa using q),List.length_cons,List.length_cons]
   rw [List.any_cons,Bool.eq_false_iff.mpr q,Bool.false_or] at h
   have:=zHp h
   omega
theorem SInv.putTot {s:State} (I:SInv s) {x:Total} (h1:1≤x.device∧x.device≤s.devices.length) (h2:¬(TOTALS≤s.totals.length∧(s.totals.any fun t=>t.device==x.device&&t.month==x.month)=false)):SInv { s with totals:=putTotal x s.totals } where
 tiles:=I.tiles
 apart:=I.apart
 nruns:=I.nruns
 ngiven:=I.ngiven
 nacc:=I.nacc
 ndev:=I.ndev
 tech:=I.tech
 dev:=I.dev
 ntot:=by
  have p:=(z5g (x:=x) I.tots).length_eq
  show (putTotal x s.totals).length≤256
  rw [p,List.length_cons]
  have h0:=I.ntot
  by_cases q:(s.totals.any fun t=>t.device==x.device&&t.month==x.month)=true
  ·have:=zHp (p:=sameKey x) q
   omega
  ·have hlt:s.totals.length < 256:=by
    apply Nat.lt_of_not_le
    intro z
    exact h2 ⟨z,Bool.eq_false_iff.mpr q⟩
   have:=List.length_filter_le (fun t=>!sameKey x t) s.totals
   omega
 tot:=fun t ht=>by
  rcases zeg ht with e|ht
  ·rw [e]
   exact h1
  ·exact I.tot t ht
 tots:=zGi I.tots
 noff:=I.noff
 nmade:=I.nmade
 offs:=I.offs
 offn:=I.offn
 offr:=I.offr
 offc:=I.offc
theorem SInv.give {s:State} (I:SInv s) {n d m h:Nat} (hn:0 < n) (hg:s.given + n≤1000000000) (hd:1≤d∧d≤s.devices.length) (hl:(joined (s.runs++[⟨s.given + 1,s.given + n,d,m,.live h⟩])).length≤256):
  SInv { s with given:=s.given + n,runs:=joined (s.runs++[⟨s.given + 1,s.given + n,d,m,.live h⟩]) }:=by
 have t:zD 1 (s.runs++[⟨s.given + 1,s.given + n,d,m,.live h⟩]) (s.given + n + 1):=I.tiles.append ⟨rfl,by show s.given + 1≤s.given + n;omega,rfl⟩
 obtain ⟨j1,j2,j3⟩:=zTf t
 have e:∀k,lab (joined (s.runs++[⟨s.given + 1,s.given + n,d,m,.live h⟩])) k=if s.given + 1≤k∧k≤s.given + n then some (d,m,.live h) else lab s.runs k:=fun k=>by
  rw [j3]
  by_cases k0:k=0
  ·rw [if_neg (by omega),zSh t (by omega),zSh I.tiles (by omega)]
  ·rw [zZe I.tiles (by omega)]
   by_cases q:k < s.given + 1
   ·rw [if_pos q,if_neg (by omega)]
   ·rw [if_neg q]
    by_cases q2:k≤s.given + n
    ·rw [if_pos (by omega),zN (by dsimp only;omega)]
     rfl
    ·rw [if_neg (by omega),zQ (by dsimp only;omega)]
     exact (zsm I.tiles (by omega)).symm
 exact {
  tiles:=j1
  apart:=j2
  nruns:=hl
  ngiven:=hg
  nacc:=I.nacc
  ndev:=I.ndev
  tech:=I.tech
  dev:=fun k x q=>by
   rw [e] at q
   by_cases c:s.given + 1≤k∧k≤s.given + n
   ·rw [if_pos c] at q
    have q:=Option.some.inj q
    subst q
    exact hd
   ·rw [if_neg c] at q
    exact I.dev k x q
  ntot:=I.ntot
  tot:=I.tot
  tots:=I.tots
  noff:=I.noff
  nmade:=I.nmade
  offs:=I.offs
  offn:=I.offn
  offr:=fun o ho=>by
   obtain ⟨h1,h2,h3,h4⟩:=I.offr o ho
   refine ⟨h1,h2,Nat.le_trans h3 (Nat.le_add_right ..),fun k a b=>?_⟩
   obtain ⟨d',m',e'⟩:=h4 k a b
   refine ⟨d',m',?_⟩
   rw [e,if_neg (by omega)]
   exact e'
  offc:=fun k d' m' h' k' q=>by
   rw [e] at q
   by_cases c:s.given + 1≤k∧k≤s.given + n
   ·rw [if_pos c] at q
    have q:=congrArg (fun x:Lab=>x.2.2) (Option.some.inj q)
    cases q
   ·rw [if_neg c] at q
    exact I.offc k d' m' h' k' q }
end VM
namespace VM
open Vbemak
theorem SInv.offer {s:State} {h g a b:Nat} (I:SInv s) (m:mine s h a b=true) (h1:1≤a) (ho:s.offers.length < 32) (hm:s.offered < 1000000000) (hn:(changed a b (fun _=>.offered h (s.offered + 1)) s.runs).length≤256):
  SInv { s with offers:=s.offers++[⟨s.offered + 1,h,g,a,b⟩],offered:=s.offered + 1,runs:=changed a b (fun _=>.offered h (s.offered + 1)) s.runs }:=by
 obtain ⟨m1,m2,m3⟩:=z1m I m
 obtain ⟨c1,c2,c3⟩:=z7d (st:=.offered h (s.offered + 1)) I.tiles m1
 exact {
  tiles:=c1
  apart:=c2
  nruns:=hn
  ngiven:=I.ngiven
  nacc:=I.nacc
  ndev:=I.ndev
  tech:=I.tech
  dev:=fun n x e=>by
   rw [show (changed a b (fun _=>.offered h (s.offered + 1)) s.runs)=_ from rfl,c3] at e
   by_cases q:a≤n∧n≤b
   ·rw [if_pos q] at e
    cases z:lab s.runs n with
    |none=>
     rw [z] at e
     cases e
    |some y=>
     rw [z] at e
     have e:=Option.some.inj e
     subst e
     exact I.dev n y z
   ·rw [if_neg q] at e
    exact I.dev n x e
  ntot:=I.ntot
  tot:=I.tot
  tots:=I.tots
  noff:=by
   show (s.offers++[_]).length≤32
   rw [List.length_append,List.length_singleton]
   exact ho
  nmade:=hm
  offs:=by
   refine List.pairwise_append.mpr ⟨I.offs,List.pairwise_singleton ..,fun x hx y hy=>?_⟩
   rw [List.mem_singleton.mp hy]
   exact Nat.lt_succ_of_le (I.offn x hx).2
  offn:=fun o ho'=>by
   rcases List.mem_append.mp ho' with q|q
   ·exact ⟨(I.offn o q).1,Nat.le_succ_of_le (I.offn o q).2⟩
   ·rw [List.mem_singleton.mp q]
    exact ⟨Nat.succ_le_succ (Nat.zero_le _),Nat.le_refl _⟩
  offr:=fun o ho'=>by
   rcases List.mem_append.mp ho' with q|q
   ·obtain ⟨z1,z2,z3,z4⟩:=I.offr o q
    refine ⟨z1,z2,z3,fun n a' b'=>?_⟩
    obtain ⟨d,mo,e⟩:=z4 n a' b'
    refine ⟨d,mo,?_⟩
    rw [c3,if_neg,e]
    intro w
    have:=m3 n _ w.1 w.2 e
    cases this
   ·have q:=List.mem_singleton.mp q
    subst q
    refine ⟨h1,m1,m2,fun n a' b'=>?_⟩
    have h1':1≤n:=Nat.le_trans h1 a'
    have h2':n < s.given + 1:=Nat.lt_succ_of_le (Nat.le_trans b' m2)
    obtain ⟨x,hx⟩:=zvo I.tiles h1' h2'
    refine ⟨x.1,x.2.1,?_⟩
    rw [c3,if_pos ⟨a',b'⟩,hx]
    rfl
  offc:=fun n d mo h' k e=>by
   rw [c3] at e
   by_cases q:a≤n∧n≤b
   ·rw [if_pos q] at e
    cases z:lab s.runs n with
    |none=>
     rw [z] at e
     cases e
    |some y=>
     rw [z] at e
     have e:=congrArg (fun x:Lab=>x.2.2) (Option.some.inj e)
     have e:St.offered h (s.offered + 1)=.offered h' k:=e
     injection e with e1 e2
     exact ⟨_,List.mem_append_right _ (List.mem_singleton.mpr rfl),e2,e1,q.1,q.2⟩
   ·rw [if_neg q] at e
    obtain ⟨o,z1,z2⟩:=I.offc n d mo h' k e
    exact ⟨o,List.mem_append_left _ z1,z2⟩ }
theorem zUs {s:State} (I:SInv s) {o o':Offer} (h:o∈s.offers) (h':o'∈s.offers) (e:o.num=o'.num):o=o':=by
 have all:∀{l:List Offer},l.Pairwise (fun a b=>a.num < b.num)→o∈l→o'∈l→o=o':=by
  intro l
  induction l with
  |nil=>intro _ h _;cases h
  |cons x l ih=>
   intro p h h'
   obtain ⟨p1,p2⟩:=List.pairwise_cons.mp p
   rcases List.mem_cons.mp h with q|q
   ·rcases List.mem_cons.mp h' with q'|q'
    ·rw [q,q']
    ·have:=p1 o' q'
     rw [q] at e
     omega
   ·rcases List.mem_cons.mp h' with q'|q'
    ·have:=p1 o q
     rw [q'] at e
     omega
    ·exact ih p2 q q'
 exact all I.offs h h'
def zjm (o:Offer) (h:Nat) (x:Lab):St:=if x.2.2=.offered o.from_ o.num then .live h else x.2.2
theorem zEz {o:Offer} {h:Nat} {x:Lab} (e:x.2.2=.offered o.from_ o.num):zte (zjm o h x) x=zte (.live h) x:=by
 unfold zjm
 rw [if_pos e]
theorem zFv {o:Offer} {h:Nat} {x:Lab} (e:¬x.2.2=.offered o.from_ o.num):zte (zjm o h x) x=x:=by
 unfold zjm
 rw [if_neg e]
 rfl
theorem zcn {s:State} (I:SInv s) {o:Offer} (ho:o∈s.offers) (h n:Nat):lab (changed o.first o.last (fun _=>.live h) s.runs) n=(lab s.runs n).map fun x=>zte (zjm o h x) x:=by
 obtain ⟨z1,z2,z3,z4⟩:=I.offr o ho
 obtain ⟨c1,c2,c3⟩:=z7d (st:=.live h) I.tiles z2
 rw [c3]
 by_cases q:o.first≤n∧n≤o.last
 ·rw [if_pos q]
  obtain ⟨d,m,e⟩:=z4 n q.1 q.2
  rw [e]
  exact congrArg some (zEz (x:=(d,m,St.offered o.from_ o.num)) rfl).symm
 ·rw [if_neg q]
  cases e:lab s.runs n with
  |none=>rfl
  |some x=>
   ·refine congrArg some (zFv ?_).symm
    intro w
    obtain ⟨d,m,st⟩:=x
    have w:st=.offered o.from_ o.num:=w
    subst w
    obtain ⟨o',y1,y2,y3,y4⟩:=I.offc n d m _ _ e
    have:=zUs I y1 ho y2
    subst this
    exact q y4
theorem zpn {s:State} (I:SInv s) {o:Offer} (ho:o∈s.offers) (h:Nat):(changed o.first o.last (fun _=>.live h) s.runs).length≤256:=by
 obtain ⟨z1,z2,z3,z4⟩:=I.offr o ho
 obtain ⟨c1,c2,c3⟩:=z7d (st:=.live h) I.tiles z2
 exact Nat.le_trans (few (g:=zjm o h) I.tiles c1 c2 fun n _ _=>zcn I ho h n).2 I.nruns
theorem SInv.endOffer {s:State} (I:SInv s) {o:Offer} (ho:o∈s.offers) (h:Nat):
  SInv { s with offers:=s.offers.filter fun y=>y.num != o.num,runs:=changed o.first o.last (fun _=>.live h) s.runs }:=by
 obtain ⟨z1,z2,z3,z4⟩:=I.offr o ho
 obtain ⟨c1,c2,c3⟩:=z7d (st:=.live h) I.tiles z2
 have hsub:∀{x:Offer},x∈s.offers.filter (fun y=>y.num != o.num)→x∈s.offers∧x.num≠o.num:=fun {x} hx=>by
  obtain ⟨a1,a2⟩:=List.mem_filter.mp hx
  exact ⟨a1,by simpa using a2⟩
 exact {
  tiles:=c1
  apart:=c2
  nruns:=zpn I ho h
  ngiven:=I.ngiven
  nacc:=I.nacc
  ndev:=I.ndev
  tech:=I.tech
  dev:=fun n x e=>by
   rw [zcn I ho] at e
   cases z:lab s.runs n with
   |none=>
    rw [z] at e
    cases e
   |some y=>
    rw [z] at e
    have e:=Option.some.inj e
    subst e
    exact I.dev n y z
  ntot:=I.ntot
  tot:=I.tot
  tots:=I.tots
  noff:=Nat.le_trans (List.length_filter_le ..) I.noff
  nmade:=I.nmade
  offs:=List.Pairwise.sublist List.filter_sublist I.offs
  offn:=fun x hx=>I.offn x (hsub hx).1
  offr:=fun x hx=>by
   obtain ⟨hx1,hx2⟩:=hsub hx
   obtain ⟨y1,y2,y3,y4⟩:=I.offr x hx1
   refine ⟨y1,y2,y3,fun n a b=>?_⟩
   obtain ⟨d,m,e⟩:=y4 n a b
   refine ⟨d,m,?_⟩
   rw [zcn I ho,e]
   ·refine congrArg some (zFv ?_)
    intro w
    have w:St.offered x.from_ x.num=.offered o.from_ o.num:=w
    injection w with _ w
    exact hx2 w
  offc:=fun n d m h' k e=>by
   rw [zcn I ho] at e
   cases z:lab s.runs n with
   |none=>
    rw [z] at e
    cases e
   |some y=>
    rw [z] at e
    have e:=Option.some.inj e
    obtain ⟨d',m',st⟩:=y
    have e1:zjm o h (d',m',st)=.offered h' k:=congrArg (fun x:Lab=>x.2.2) e
    unfold zjm at e1
    by_cases q:st=.offered o.from_ o.num
    ·rw [if_pos (show ((d',m',st):Lab).2.2=_ from q)] at e1
     cases e1
    ·rw [if_neg (show ¬((d',m',st):Lab).2.2=_ from q)] at e1
     have e1:st=.offered h' k:=e1
     subst e1
     obtain ⟨x,x1,x2,x3,x4⟩:=I.offc n d' m' h' k z
     refine ⟨x,List.mem_filter.mpr ⟨x1,?_⟩,x2,x3,x4⟩
     rw [bne_iff_ne]
     intro w
     have:=zUs I x1 ho w
     subst this
     exact q (by rw [x3,x2]) }
def zLs (life now:Nat) (x:Lab):St:=zoe life now ⟨0,0,x.1,x.2.1,x.2.2⟩
theorem zlm (life now:Nat) (l:List Run):ticked life now l=joined (l.map (zNg (zLs life now))):=by
 unfold ticked
 rw [List.map_map]
 rfl
theorem zdw (life now:Nat) (r:Run):z8i (zoe life now r)=false:=by
 unfold zoe late back
 obtain ⟨a,b,d,m,st⟩:=r
 cases st<;>dsimp only<;>first|rfl|(split<;>rfl)
theorem SInv.tick {s:State} (I:SInv s) (m:Nat):SInv { s with now:=m,offers:=[],runs:=ticked s.life m s.runs }:=by
 obtain ⟨j1,j2,j3⟩:=zqu (zLs s.life m) I.tiles
 rw [←zlm] at j1 j2 j3
 exact {
  tiles:=j1
  apart:=j2
  nruns:=by
   show (ticked s.life m s.runs).length≤256
   rw [zlm]
   have:=zHk (s.runs.map (zNg (zLs s.life m)))
   rw [List.length_map] at this
   exact Nat.le_trans this I.nruns
  ngiven:=I.ngiven
  nacc:=I.nacc
  ndev:=I.ndev
  tech:=I.tech
  dev:=fun n x e=>by
   rw [j3] at e
   cases z:lab s.runs n with
   |none=>
    rw [z] at e
    cases e
   |some y=>
    rw [z] at e
    have e:=Option.some.inj e
    subst e
    exact I.dev n y z
  ntot:=I.ntot
  tot:=I.tot
  tots:=I.tots
  noff:=Nat.zero_le _
  nmade:=I.nmade
  offs:=List.Pairwise.nil
  offn:=fun o h=>nomatch h
  offr:=fun o h=>nomatch h
  offc:=fun n d mo h k e=>by
   rw [j3] at e
   cases z:lab s.runs n with
   |none=>
    rw [z] at e
    cases e
   |some y=>
    rw [z] at e
    have e:=congrArg (fun x:Lab=>x.2.2) (Option.some.inj e)
    have e:zLs s.life m y=.offered h k:=e
    have:=zdw s.life m ⟨0,0,y.1,y.2.1,y.2.2⟩
    rw [show zoe s.life m ⟨0,0,y.1,y.2.1,y.2.2⟩=.offered h k from e] at this
    cases this }
theorem device?_ok {s:State} {d:Nat} {x:Device} (h:device? s d=some x):1≤d∧d≤s.devices.length∧s.devices[d - 1]?=some x:=by
 unfold device? at h
 by_cases q:d=0
 ·rw [if_pos q] at h
  cases h
 ·rw [if_neg q] at h
  have:=(List.getElem?_eq_some_iff.mp h).1
  exact ⟨by omega,by omega,h⟩
theorem zXy {s t:State} {c:Call} {l:List Int} (I:SInv s) (R:Rg c) (h:does s c=.ok (t,l)):SInv t:=by
 cases c with
 |opens life window=>
  simp only [does] at h
  split at h
  ·cases h
  ·injection h with h
   injection h with h _
   subst h
   exact { I with }
 |account=>
  simp only [does] at h
  split at h
  ·cases h
  ·rename_i q
   injection h with h
   injection h with h _
   subst h
   exact { I with nacc:=by show s.accounts + 1≤32;unfold ACCOUNTS at q;omega }
 |device a tech=>
  simp only [does] at h
  split at h
  ·cases h
  ·split at h
   ·cases h
   ·rename_i q
    injection h with h
    injection h with h _
    subst h
    unfold DEVICES at q
    have e:(s.devices++[({ owner:=a,tech:=tech }:Device)]).length=s.devices.length + 1:=by rw [List.length_append];rfl
    exact { I with
     ndev:=by rw [e];omega
     tech:=fun d hd=>by
      rcases List.mem_append.mp hd with hd|hd
      ·exact I.tech d hd
      ·rw [List.mem_singleton.mp hd]
       exact R.2
     dev:=fun n x w=>by
      have:=I.dev n x w
      rw [e]
      omega
     tot:=fun x w=>by
      have:=I.tot x w
      rw [e]
      omega }
 |pass d a=>
  simp only [does] at h
  split at h
  ·cases h
  ·split at h
   ·cases h
   ·injection h with h
    injection h with h _
    subst h
    exact I.setDev d fun _=>rfl
 |meter d m total=>
  simp only [does] at h
  cases e:device? s d with
  |none=>
   rw [e] at h
   cases h
  |some x=>
   rw [e] at h
   dsimp only at h
   split at h
   ·cases h
   ·split at h
    ·cases h
    ·rename_i q
     injection h with h
     injection h with h _
     subst h
     obtain ⟨e1,e2,_⟩:=device?_ok e
     have J:=I.setDev d (g:=fun x_1=>{ x_1 with balance:=x.balance + (total - totalOf s d m) }) fun _=>rfl
     exact J.putTot (x:=⟨d,m,total⟩) ⟨e1,by show d≤(setDevice _ _ s.devices).length;rw [zFd];exact e2⟩ q
 |issue d m=>
  simp only [does] at h
  cases e:device? s d with
  |none=>
   rw [e] at h
   cases h
  |some x=>
   rw [e] at h
   dsimp only at h
   split at h
   ·cases h
   ·split at h
    ·injection h with h
     injection h with h _
     subst h
     exact I
    ·rename_i q0
     split at h
     ·cases h
     ·rename_i q
      obtain ⟨h1,h2,h3⟩:=zRc h
      subst h2
      obtain ⟨e1,e2,_⟩:=device?_ok e
      have J:=I.setDev d (g:=fun x_1=>{ x_1 with issued:=x_1.issued + (x.balance / UNIT).toNat,balance:=x_1.balance - UNIT * ((x.balance / UNIT).toNat:Nat) }) fun _=>rfl
      exact J.give (n:=(x.balance / UNIT).toNat) (d:=d) (m:=m) (h:=x.owner) (by omega) (Nat.le_of_not_lt q) ⟨e1,by show d≤(setDevice _ _ s.devices).length;rw [zFd];exact e2⟩ h1
 |move h1 g a b=>
  simp only [does] at h
  split at h
  ·cases h
  ·split at h
   ·cases h
   ·rename_i q
    obtain ⟨w1,w2,w3⟩:=zRc h
    subst w2
    exact I.stretch (Bool.of_not_eq_false q) rfl w1
 |moveSome h1 g tech c=>
  simp only [does] at h
  split at h
  ·cases h
  ·split at h
   ·cases h
   ·obtain ⟨w1,w2,w3⟩:=zRc h
    subst w2
    exact I.fsts rfl w1
 |cancel h1 a b u=>
  simp only [does] at h
  split at h
  ·cases h
  ·split at h
   ·cases h
   ·rename_i q
    obtain ⟨w1,w2,w3⟩:=zRc h
    subst w2
    exact I.stretch (Bool.of_not_eq_false q) rfl w1
 |cancelSome h1 tech c u=>
  simp only [does] at h
  split at h
  ·cases h
  ·split at h
   ·cases h
   ·obtain ⟨w1,w2,w3⟩:=zRc h
    subst w2
    exact I.fsts rfl w1
 |offer h1 g a b=>
  simp only [does] at h
  split at h
  ·cases h
  ·split at h
   ·cases h
   ·rename_i q
    split at h
    ·cases h
    ·rename_i q2
     obtain ⟨w1,w2,w3⟩:=zRc h
     subst w2
     unfold OFFERS NUMBERS at q2
     exact I.offer (Bool.of_not_eq_false q) R (by omega) (by omega) w1
 |accept o=>
  simp only [does] at h
  cases e:s.offers.find? fun x=>x.num==o with
  |none=>
   rw [e] at h
   cases h
  |some x=>
   rw [e] at h
   obtain ⟨w1,w2,w3⟩:=zRc h
   subst w2
   have e1:x.num=o:=by simpa using List.find?_some e
   have J:=I.endOffer (List.mem_of_find?_eq_some e) x.to_
   rw [e1] at J
   exact J
 |decline o=>
  simp only [does] at h
  cases e:s.offers.find? fun x=>x.num==o with
  |none=>
   rw [e] at h
   cases h
  |some x=>
   rw [e] at h
   obtain ⟨w1,w2,w3⟩:=zRc h
   subst w2
   have e1:x.num=o:=by simpa using List.find?_some e
   have J:=I.endOffer (List.mem_of_find?_eq_some e) x.from_
   rw [e1] at J
   exact J
 |tick m=>
  simp only [does] at h
  split at h
  ·cases h
  ·injection h with h
   injection h with h _
   subst h
   exact I.tick m
 |withdraw d c=>
  simp only [does] at h
  cases e:device? s d with
  |none=>
   rw [e] at h
   cases h
  |some x=>
   rw [e] at h
   dsimp only at h
   split at h
   ·cases h
   ·split at h
    ·cases h
    ·obtain ⟨w1,w2,w3⟩:=zRc h
     subst w2
     have J:=I.lsts (h:=x.owner) (c:=c) (q:=fun r=>r.device==d) (st:=.withdrawn x.owner) rfl w1
     exact J.setDev d (g:=fun x_1=>{ x_1 with withdrawn:=x_1.withdrawn + c,balance:=x_1.balance + UNIT * (c:Nat) }) fun _=>rfl
 |where_ n=>
  simp only [does] at h
  cases e:runOf n s.runs with
  |none=>
   rw [e] at h
   cases h
  |some r=>
   rw [e] at h
   injection h with h
   injection h with h _
   subst h
   exact I
 |holding a=>
  simp only [does] at h
  split at h
  ·cases h
  ·injection h with h
   injection h with h _
   subst h
   exact I
 |tally a tech=>
  simp only [does] at h
  split at h
  ·cases h
  ·injection h with h
   injection h with h _
   subst h
   exact I
 |statement u=>
  simp only [does] at h
  injection h with h
  injection h with h _
  subst h
  exact I
 |info d=>
  simp only [does] at h
  cases e:device? s d with
  |none=>
   rw [e] at h
   cases h
  |some r=>
   rw [e] at h
   injection h with h
   injection h with h _
   subst h
   exact I
 |sums=>
  simp only [does] at h
  injection h with h
  injection h with h _
  subst h
  exact I
 |disclose u n=>
  simp only [does] at h
  injection h with h
  injection h with h _
  subst h
  exact I
 |offers=>
  simp only [does] at h
  injection h with h
  injection h with h _
  subst h
  exact I
 |total d m=>
  simp only [does] at h
  split at h
  ·cases h
  ·injection h with h
   injection h with h _
   subst h
   exact I
end VM
namespace VM
open Vbemak
def bef (total:Nat) (l:List Nat) (j i:Nat):Bool:=decide (nth l i * WHOLE % total < nth l j * WHOLE % total)||(nth l j * WHOLE % total==nth l i * WHOLE % total&&decide (j < i))
theorem zmq {total:Nat} {l:List Nat} {j i:Nat}:bef total l j i=true↔nth l i * WHOLE % total < nth l j * WHOLE % total∨(nth l j * WHOLE % total=nth l i * WHOLE % total∧j < i):=by
 unfold bef
 rw [Bool.or_eq_true,Bool.and_eq_true,decide_eq_true_eq,decide_eq_true_eq,beq_iff_eq]
theorem zrA (total:Nat) (l:List Nat) (i:Nat):¬bef total l i i=true:=by
 rw [zmq]
 omega
theorem zlz {total:Nat} {l:List Nat} {i j:Nat} (h:bef total l i j=true):¬bef total l j i=true:=by
 rw [zmq] at *
 omega
theorem zjv {total:Nat} {l order:List Nat} (hp:order.Perm (List.range l.length)) (hs:order.Pairwise fun a b=>bef total l a b=true) {k i:Nat} (hk:order[k]?=some i):rank total l i=k:=by
 have e1:rank total l i=(order.filter fun j=>bef total l j i).length:=((hp.filter _).length_eq).symm
 rw [e1]
 obtain ⟨hlt,hi⟩:=List.getElem?_eq_some_iff.mp hk
 have e2:order=order.take k++i::order.drop (k + 1):=by
  have:=(List.take_append_drop k order).symm
  rw [List.drop_eq_getElem_cons hlt,hi] at this
  exact this
 rw [e2] at hs
 obtain ⟨p1,p2,p3⟩:=List.pairwise_append.mp hs
 obtain ⟨p4,p5⟩:=List.pairwise_cons.mp p2
 have f1:(order.take k).filter (fun j=>bef total l j i)=order.take k:=List.filter_eq_self.mpr fun j hj=>p3 j hj i (List.mem_cons_self ..)
 have f2:(i::order.drop (k + 1)).filter (fun j=>bef total l j i)=[]:=List.filter_eq_nil_iff.mpr fun j hj=>by
  rcases List.mem_cons.mp hj with e|hj
  ·rw [e]
   exact zrA total l i
  ·exact zlz (p4 j hj)
 have e3:order.filter (fun j=>bef total l j i)=order.take k:=by
  have:=congrArg (List.filter fun j=>bef total l j i) e2
  rw [List.filter_append,f1,f2,List.append_nil] at this
  exact this
 rw [e3,List.length_take]
 omega
theorem zJl {total:Nat} {l order:List Nat} (hp:order.Perm (List.range l.length)) (hs:order.Pairwise fun a b=>bef total l a b=true) {m i:Nat} (hi:i < l.length):i∈order.take m↔rank total l i < m:=by
 have hm:i∈order:=hp.mem_iff.mpr (List.mem_range.mpr hi)
 obtain ⟨k,hk⟩:=List.getElem?_of_mem hm
 have hr:=zjv hp hs hk
 constructor
 ·intro h
  obtain ⟨j,hj⟩:=List.getElem?_of_mem h
  have hjm:j < m:=by
   have:=(List.getElem?_eq_some_iff.mp hj).1
   rw [List.length_take] at this
   omega
  rw [List.getElem?_take_of_lt hjm] at hj
  have:=zjv hp hs hj
  omega
 ·intro h
  refine List.mem_of_getElem? (i:=k) ?_
  rw [List.getElem?_take_of_lt (by omega)]
  exact hk
def bump (sh:List Int) (ats:List Nat):List Int:=ats.foldl (fun sh at_=>sh.set at_ (sh.getD at_ 0 + 1)) sh
theorem zYt:∀(ats:List Nat) (sh:List Int),(bump sh ats).length=sh.length
 |[],sh=>rfl
 |a::ats,sh=>by
  show (bump (sh.set a (sh.getD a 0 + 1)) ats).length=_
  rw [zYt ats,List.length_set]
theorem zUv:∀(ats:List Nat) (sh:List Int) (i:Nat),ats.Nodup→(bump sh ats)[i]?=(sh[i]?).map fun z=>z + (if i∈ats then 1 else 0)
 |[],sh,i,_=>by
  show sh[i]?=_
  cases sh[i]?<;>simp
 |a::ats,sh,i,nd=>by
  obtain ⟨n1,n2⟩:=List.nodup_cons.mp nd
  show (bump (sh.set a (sh.getD a 0 + 1)) ats)[i]?=_
  rw [zUv ats _ i n2]
  by_cases e:a=i
  ·subst e
   rw [if_neg n1,if_pos (List.mem_cons_self ..)]
   by_cases h:a < sh.length
   ·rw [List.getElem?_set_self h,List.getElem?_eq_getElem h]
    simp [List.getD,List.getElem?_eq_getElem h]
   ·rw [List.getElem?_eq_none (by rw [List.length_set];omega),List.getElem?_eq_none (by omega)]
    rfl
  ·rw [List.getElem?_set_ne e]
   congr 1
   funext z
   congr 1
   by_cases q:i∈ats
   ·rw [if_pos q,if_pos (List.mem_cons_of_mem _ q)]
   ·rw [if_neg q,if_neg]
    intro w
    rcases List.mem_cons.mp w with w|w
    ·exact e w.symm
    ·exact q w
theorem zzm {total:Nat} (ht:0 < total):∀l:List Nat,(l.map fun n=>n * WHOLE / total).sum * total≤l.sum * WHOLE
 |[]=>by simp
 |a::l=>by
  rw [List.map_cons,List.sum_cons,List.sum_cons,Nat.add_mul,Nat.add_mul]
  have:=zzm ht l
  have:=Nat.div_mul_le_self (a * WHOLE) total
  omega
theorem z6u {l order:List Nat} (h0:0 < l.sum) (hp:order.Perm (List.range l.length)) (hs:order.Pairwise fun a b=>bef l.sum l a b=true) {m:Nat}
  (hm:(m:Int)=10000 - ((l.map fun n=>n * WHOLE / l.sum).sum:Nat)):bump (l.map fun n=>((n * WHOLE / l.sum:Nat):Int)) (order.take m)=(shares l.sum l).map nat:=by
 have hfl:(l.map fun n=>n * WHOLE / l.sum).sum≤WHOLE:=by
  have:=zzm h0 l
  have e:l.sum * WHOLE=WHOLE * l.sum:=Nat.mul_comm ..
  rw [e] at this
  exact Nat.le_of_mul_le_mul_right this h0
 have em:m=WHOLE - (l.map fun n=>n * WHOLE / l.sum).sum:=by
  unfold WHOLE at *
  omega
 unfold shares
 rw [if_neg (by omega)]
 dsimp only
 rw [←em]
 have nd:(order.take m).Nodup:=List.Sublist.nodup (List.take_sublist ..) (hp.nodup_iff.mpr List.nodup_range)
 apply List.ext_getElem?
 intro i
 rw [zUv _ _ _ nd,List.getElem?_map,List.getElem?_map,List.getElem?_map]
 by_cases h:i < l.length
 ·rw [List.getElem?_eq_getElem h,List.getElem?_range h]
  show some _=some _
  congr 1
  have en:nth l i=l[i]:=by
   unfold nth
   rw [List.getElem?_eq_getElem h]
   rfl
  dsimp only
  rw [en]
  unfold nat
  by_cases q:rank l.sum l i < m
  ·rw [if_pos ((zJl hp hs h).mpr q),if_pos q]
   rfl
  ·rw [if_neg (fun w=>q ((zJl hp hs h).mp w)),if_neg q]
   rfl
 ·rw [List.getElem?_eq_none (by omega),List.getElem?_eq_none (by rw [List.length_range];omega)]
  rfl
theorem zJu (l:List Nat):(shares 0 l).map nat=List.replicate l.length 0:=by
 unfold shares
 rw [if_pos rfl,List.map_map]
 exact List.map_const' ..
def z9i (l:List Int) (t:Nat) (z:Int):List Int:=l.set t (l.getD t 0 + z)
theorem zGx (l:List Int) (t:Nat) (z:Int):(z9i l t z).length=l.length:=List.length_set ..
theorem zoz {l:List Int} {t i:Nat} {z:Int} (ht:t < l.length):(z9i l t z)[i]?=(l[i]?).map fun y=>y + (if t=i then z else 0):=by
 unfold z9i
 by_cases e:t=i
 ·subst e
  rw [List.getElem?_set_self ht,List.getElem?_eq_getElem ht,if_pos rfl]
  simp [List.getD,List.getElem?_eq_getElem ht]
 ·rw [List.getElem?_set_ne e,if_neg e]
  cases l[i]?<;>simp
def zhg {α:Type} (tech:α→Nat) (z:α→Int) (l:List α):List Int:=l.foldl (fun acc x=>z9i acc (tech x) (z x)) (List.replicate 10 0)
theorem zhm {α:Type} {tech:α→Nat} {z:α→Int}:∀{l:List α} {acc:List Int} (i:Nat),acc.length=10→(∀x∈l,tech x < 10)→
  (l.foldl (fun acc x=>z9i acc (tech x) (z x)) acc).length=10∧(l.foldl (fun acc x=>z9i acc (tech x) (z x)) acc)[i]?=(acc[i]?).map fun y=>y + ((l.filter fun x=>tech x==i).map z).sum
 |[],acc,i,h,_=>⟨h,by show acc[i]?=_;cases acc[i]?<;>simp⟩
 |x::l,acc,i,h,ht=>by
  have hx:=ht x (List.mem_cons_self ..)
  obtain ⟨i1,i2⟩:=zhm (l:=l) (acc:=z9i acc (tech x) (z x)) i (by rw [zGx];exact h) fun y hy=>ht y (List.mem_cons_of_mem _ hy)
  refine ⟨i1,i2.trans ?_⟩
  rw [zoz (by omega),Option.map_map]
  congr 1
  funext y
  show y + _ + _=y + _
  by_cases e:tech x=i
  ·rw [if_pos e,List.filter_cons_of_pos (by simpa using e),List.map_cons,List.sum_cons]
   omega
  ·rw [if_neg e,List.filter_cons_of_neg (by simpa using e)]
   omega
theorem z8p {α:Type} {tech:α→Nat} {z:α→Int} {l:List α} (ht:∀x∈l,tech x < 10):(zhg tech z l).length=10:=(zhm (z:=z) 0 (by simp) ht).1
theorem ztr {α:Type} {tech:α→Nat} {z:α→Int} {l:List α} (ht:∀x∈l,tech x < 10):zhg tech z l=(List.range 10).map fun t=>((l.filter fun x=>tech x==t).map z).sum:=by
 apply List.ext_getElem?
 intro i
 have:=(zhm (z:=z) (acc:=List.replicate 10 0) i (by simp) ht).2
 unfold zhg
 rw [this,List.getElem?_map]
 by_cases h:i < 10
 ·rw [List.getElem?_range h,List.getElem?_replicate,if_pos h]
  simp
 ·rw [List.getElem?_eq_none (l:=List.range 10) (by rw [List.length_range];omega),List.getElem?_replicate,if_neg h]
  rfl
theorem zKj:∀l:List Nat,(l.map nat).sum=(l.sum:Int)
 |[]=>rfl
 |a::l=>by
  rw [List.map_cons,List.sum_cons,List.sum_cons,zKj l]
  unfold nat
  omega
def zYc (k w:List Nat) (used:Nat):List Nat:=if w.sum=0 then k++[used - k.sum] else (k.zip w).map (fun x=>x.1 * w.sum + (used - k.sum) * x.2)++[0]
theorem zEv (a b:Nat):∀{k w:List Nat},k.length=w.length→((k.zip w).map fun x=>x.1 * a + b * x.2).sum=k.sum * a + b * w.sum
 |[],[],_=>by simp
 |[],_::_,h=>by simp at h
 |_::_,[],h=>by simp at h
 |x::k,y::w,h=>by
  rw [List.zip_cons_cons,List.map_cons,List.sum_cons,zEv a b (by simpa using h),List.sum_cons,List.sum_cons,Nat.add_mul,Nat.mul_add]
  dsimp only
  omega
theorem zcl {k w:List Nat} {used:Nat} (h:k.length=w.length):(zYc k w used).sum=if w.sum=0 then k.sum + (used - k.sum) else (k.sum + (used - k.sum)) * w.sum:=by
 unfold zYc
 by_cases q:w.sum=0
 ·rw [if_pos q,if_pos q,List.sum_append,List.sum_cons,List.sum_nil]
  omega
 ·rw [if_neg q,if_neg q,List.sum_append,zEv _ _ h,Nat.add_mul,List.sum_cons,List.sum_nil]
  omega
theorem zJm (s:State) (u used:Nat):disclosed s u used=
  shares (zYc ((List.range TECHS).map fun t=>count (ofTech s t (s.runs.filter (usedFor u)))) ((List.range TECHS).map (residual s)) used).sum
   (zYc ((List.range TECHS).map fun t=>count (ofTech s t (s.runs.filter (usedFor u)))) ((List.range TECHS).map (residual s)) used):=by
 rw [zcl (by rw [List.length_map,List.length_map])]
 unfold disclosed zYc
 dsimp only
 split<;>rfl
theorem zxl {k w:List Nat} {used:Nat} (h:k.length=10) (h':w.length=10):(zYc k w used).length=11:=by
 unfold zYc
 split
 ·rw [List.length_append,h]
  rfl
 ·rw [List.length_append,List.length_map,List.length_zip,h,h']
  rfl
end VM
namespace VM
open Vbemak
def zyf (p:Int):Nat:=match PyVbemak.shape p with
 |some (n,_)=>n
 |none=>0
def zQs:List (Int×Nat×Nat):=[(0,2,0),(1,0,0),(2,2,0),(3,2,0),(4,3,0),(5,2,0),(6,4,0),(7,4,0),(8,4,0),(9,4,0),(10,4,0),(11,1,0),(12,1,0),(13,1,0),(14,2,0),(15,1,0),(16,1,0),(17,2,0),(18,1,0),(19,1,0),(20,0,0),(21,2,0),(22,0,0),(23,2,0)]
def look (p:Int):List (Int×Nat×Nat)→Option (Nat×Nat)
 |[]=>none
 |a::t=>if p=a.1 then some a.2 else look p t
theorem zat {p:Int} {x:Nat×Nat}:∀{l:List (Int×Nat×Nat)},look p l=some x→(p,x)∈l
 |[],h=>by cases h
 |a::t,h=>by
  by_cases e:p=a.1
  ·rw [look,if_pos e] at h
   cases h
   rw [e]
   exact List.mem_cons_self ..
  ·rw [look,if_neg e] at h
   exact List.mem_cons_of_mem _ (zat h)
def zTz (P:Int×Nat×Nat→Prop):List (Int×Nat×Nat)→Prop
 |[]=>True
 |a::t=>P a∧zTz P t
theorem znu {P:Int×Nat×Nat→Prop}:∀{l:List (Int×Nat×Nat)} {y:Int×Nat×Nat},zTz P l→y∈l→P y
 |a::t,y,h,m=>by
  rcases List.mem_cons.mp m with rfl|m
  ·exact h.1
  ·exact znu h.2 m
theorem zUr {p:Int} {x:Nat×Nat} (h:PyVbemak.shape p=some x):(p,x)∈zQs:=zat (l:=zQs) h
theorem zew {p:Int} {x:Nat×Nat} (h:PyVbemak.shape p=some x):0≤p∧p≤23∧x=(zyf p,0):=by
 have hx:x=(zyf p,x.2):=by
  unfold zyf
  rw [h]
 have key:0≤p∧p≤23∧x.2=0:=(by decide:∀y∈zQs,0≤y.1∧y.1≤23∧y.2.2=0) _ (zUr h)
 refine ⟨key.1,key.2.1,?_⟩
 rw [hx,key.2.2]
theorem len0 {P:List Int→Prop} (h:P []) (r:List Int) (e:r.length=0):P r:=match r,e with
 |[],_=>h
theorem zxc {P:List Int→Prop} (h:∀a,P [a]) (r:List Int) (e:r.length=1):P r:=match r,e with
 |[a],_=>h a
theorem z7b {P:List Int→Prop} (h:∀a b,P [a,b]) (r:List Int) (e:r.length=2):P r:=match r,e with
 |[a,b],_=>h a b
theorem z0s {P:List Int→Prop} (h:∀a b c,P [a,b,c]) (r:List Int) (e:r.length=3):P r:=match r,e with
 |[a,b,c],_=>h a b c
theorem zOd {P:List Int→Prop} (h:∀a b c d,P [a,b,c,d]) (r:List Int) (e:r.length=4):P r:=match r,e with
 |[a,b,c,d],_=>h a b c d
theorem zDy:zTz (fun y=>∀r:List Int,r.length=y.2.1→PyVbemak.whole [y.1::r]=[y.1::r]) zQs:=⟨z7b fun _ _=>rfl,len0 rfl,z7b fun _ _=>rfl,z7b fun _ _=>rfl,z0s fun _ _ _=>rfl,z7b fun _ _=>rfl,zOd fun _ _ _ _=>rfl,zOd fun _ _ _ _=>rfl,zOd fun _ _ _ _=>rfl,zOd fun _ _ _ _=>rfl,zOd fun _ _ _ _=>rfl,zxc fun _=>rfl,zxc fun _=>rfl,zxc fun _=>rfl,z7b fun _ _=>rfl,zxc fun _=>rfl,zxc fun _=>rfl,z7b fun _ _=>rfl,zxc fun _=>rfl,zxc fun _=>rfl,len0 rfl,z7b fun _ _=>rfl,len0 rfl,z7b fun _ _=>rfl,trivial⟩
theorem zLn {f:Nat} {p:Int} {r:List Int} {cs:List (List (List Int))} (h:PyFlat.calls PyVbemak.shape f (p::r)=some cs):
  0≤p∧p≤23∧zyf p≤r.length∧∃cs' f',cs=[p::r.take (zyf p)]::cs'∧PyFlat.calls PyVbemak.shape f' (r.drop (zyf p))=some cs'∧f=f' + 1∧PyVbemak.whole [p::r.take (zyf p)]=[p::r.take (zyf p)]:=by
 cases f with
 |zero=>cases h
 |succ f=>
  rw [PyFlat.calls] at h
  cases e:PyFlat.call PyVbemak.shape (p::r) with
  |none=>
   rw [e] at h
   cases h
  |some x=>
   obtain ⟨c,t⟩:=x
   rw [e] at h
   dsimp only at h
   unfold PyFlat.call at e
   dsimp only at e
   cases es:PyVbemak.shape p with
   |none=>
    rw [es] at e
    cases e
   |some x=>
    obtain ⟨h1,h2,h3⟩:=zew es
    have hm:=zUr es
    subst h3
    rw [es] at e
    dsimp only at e
    split at e
    ·cases e
    ·rename_i q
     have e:some ([p::r.take (zyf p)],r.drop (zyf p))=some (c,t):=e
     injection e with e
     injection e with e1 e2
     subst e1 e2
     cases e3:PyFlat.calls PyVbemak.shape f (r.drop (zyf p)) with
     |none=>
      rw [e3] at h
      cases h
     |some cs'=>
      rw [e3] at h
      injection h with h
      exact ⟨h1,h2,Nat.le_of_not_lt q,cs',f,h.symm,e3,rfl,znu zDy hm _ (List.length_take_of_le (Nat.le_of_not_lt q))⟩
theorem z7v {f:Nat} {p:Int} {r:List Int} {cs:List (List (List Int))} (h:PyFlat.calls PyVbemak.shape f (p::r)=some cs):
  0≤p∧p≤23∧zyf p≤r.length∧∃cs' f',cs=[p::r.take (zyf p)]::cs'∧PyFlat.calls PyVbemak.shape f' (r.drop (zyf p))=some cs':=
 have ⟨a,b,c,cs',f',d,e,_,_⟩:=zLn h
 ⟨a,b,c,cs',f',d,e⟩
theorem z4n:∀{f:Nat} {l:List Int} {cs:List (List (List Int))},PyFlat.calls PyVbemak.shape f l=some cs→cs.map PyVbemak.whole=cs
 |0,[],cs,h=>by
  cases h
  rfl
 |f + 1,[],cs,h=>by
  cases h
  rfl
 |0,p::r,cs,h=>by cases h
 |f + 1,p::r,cs,h=>by
  obtain ⟨_,_,_,cs',f',rfl,h',e,hw⟩:=zLn h
  cases e
  rw [List.map_cons,hw,z4n h']
def zQf (s:State) (cs:List (List (List Int))):List Int:=PyFlat.told (PyFlat.played VbemakNeutral.step s cs)
theorem zru (s:State) (c:List (List Int)) (cs:List (List (List Int))):zQf s (c::cs)=((stepNumbers s c).2.length:Int)::(stepNumbers s c).2++zQf (stepNumbers s c).1 cs:=rfl
theorem zgw {l:List Int} {cs:List (List (List Int))} (h:PyFlat.calls PyVbemak.shape l.length l=some cs):PyVbemak.answers l=zQf start cs:=by
 unfold PyVbemak.answers PyVbemak.calls
 rw [h]
 dsimp only
 rw [z4n h]
 rfl
theorem zvu {l:List Int} (h:PyVbemak.answers_asked l=true):∃cs,PyFlat.calls PyVbemak.shape l.length l=some cs∧cs.length≤400:=by
 unfold PyVbemak.answers_asked PyVbemak.calls at h
 cases e:PyFlat.calls PyVbemak.shape l.length l with
 |none=>
  rw [e] at h
  cases h
 |some cs=>
  rw [e] at h
  dsimp only at h
  rw [Bool.and_eq_true] at h
  refine ⟨cs,rfl,?_⟩
  have h:=h.1
  unfold PyFlat.atMost at h
  have h:=of_decide_eq_true h
  rw [List.length_map] at h
  exact h
def zY (s:State) (c:Call):State×List Int:=match does s c with
 |.error e=>(s,[e])
 |.ok (t,l)=>(t,0::l)
theorem zgy {s:State} {c:Call} (I:SInv s) (R:Rg c):SInv (zY s c).1:=by
 unfold zY
 cases e:does s c with
 |error e=>exact I
 |ok x=>
  obtain ⟨t,l⟩:=x
  exact zXy I R e
end VM
namespace VM
open Vbemak
def zGe (s:State):Prop:=∀t∈s.totals,0≤t.total∧t.total≤1000000000
def Rg2:Call→Prop
 |.meter _ _ z=>0≤z∧z≤1000000000
 |_=>True
theorem zKe {s t:State} {l:List Run} {a r:List Int} (h:withRuns s l a=.ok (t,r)):t.totals=s.totals∧r=a:=by
 unfold withRuns at h
 split at h
 ·cases h
 ·injection h with h
  injection h with h1 h2
  subst h1 h2
  exact ⟨rfl,rfl⟩
theorem ztz {s t:State} {c:Call} {l:List Int} (h:does s c=.ok (t,l)):t.totals=s.totals∨∃d m z,c=.meter d m z∧t.totals=putTotal ⟨d,m,z⟩ s.totals:=by
 cases c
 case meter d m z=>
  simp only [does] at h
  repeat' split at h
  all_goals first
   |(cases h;done)
   |(injection h with h;injection h with h1 h2;subst h1;exact .inr ⟨d,m,z,rfl,rfl⟩)
 all_goals
  left
  simp only [does] at h
  repeat' split at h
  all_goals first
   |(cases h;done)
   |(injection h with h;injection h with h1 h2;subst h1;rfl)
   |exact (zKe h).1
theorem zay {s:State} {c:Call} (T:zGe s) (R:Rg2 c):zGe (zY s c).1:=by
 unfold zY
 cases e:does s c with
 |error e=>exact T
 |ok x=>
  obtain ⟨t,l⟩:=x
  show zGe t
  rcases ztz e with h|⟨d,m,z,rfl,h⟩
  ·unfold zGe
   rw [h]
   exact T
  ·unfold zGe
   rw [h]
   intro u hu
   rcases zeg hu with rfl|hu
   ·exact R
   ·exact T u hu
theorem zGe.start:zGe Vbemak.start:=fun t h=>nomatch h
theorem zJx {α:Type} {f:α→Int} {b:Nat}:∀{l:List α},(∀x∈l,0≤f x∧f x≤b)→0≤(l.map f).sum∧(l.map f).sum≤(l.length * b:Nat)
 |[],_=>by simp
 |x::l,h=>by
  have h1:=h x (List.mem_cons_self ..)
  have h2:=zJx (l:=l) fun y hy=>h y (List.mem_cons_of_mem _ hy)
  rw [List.map_cons,List.sum_cons,List.length_cons,Nat.add_mul]
  omega
theorem zbw {s:State} (T:zGe s) (n:s.totals.length≤256) (t:Nat):0≤metered s t∧metered s t≤256000000000:=by
 unfold metered
 have h:=zJx (f:=fun x:Total=>x.total) (b:=1000000000) (l:=s.totals.filter fun x=>techOf s x.device==t) fun x hx=>T x (List.mem_filter.mp hx).1
 have h2:=List.length_filter_le (fun x:Total=>techOf s x.device==t) s.totals
 refine ⟨h.1,Int.le_trans h.2 ?_⟩
 have:(s.totals.filter fun x=>techOf s x.device==t).length * 1000000000≤256 * 1000000000:=Nat.mul_le_mul_right _ (by omega)
 omega
theorem zav {s:State} (T:zGe s) (n:s.totals.length≤256) (t:Nat):residual s t≤256000000000:=by
 have h:=zbw T n t
 unfold residual UNIT
 omega
theorem zhn {b:Nat}:∀{l:List Nat},(∀x∈l,x≤b)→l.sum≤l.length * b
 |[],_=>by simp
 |x::l,h=>by
  have h1:=h x (List.mem_cons_self ..)
  have h2:=zhn (l:=l) fun y hy=>h y (List.mem_cons_of_mem _ hy)
  rw [List.sum_cons,List.length_cons,Nat.add_mul]
  omega
theorem zIz {s:State} (I:SInv s) {l:List Run} (hs:∀r∈l,r∈s.runs) (hl:l.length≤256):count l≤256000000000:=by
 unfold count
 have h:=zhn (b:=1000000000) (l:=l.map size) fun x hx=>by
  obtain ⟨r,hr,rfl⟩:=List.mem_map.mp hx
  have h1:=z7 I.tiles (hs r hr)
  have h2:=I.ngiven
  unfold size
  omega
 rw [List.length_map] at h
 have:l.length * 1000000000≤256 * 1000000000:=Nat.mul_le_mul_right _ hl
 omega
theorem zxp:∀(c:Nat) (l:List Run),(firsts c l).length≤l.length
 |_,[]=>by simp [firsts]
 |c,r::l=>by
  unfold firsts
  have:=zxp (c - size r) l
  split
  ·simp
  ·split
   ·simp only [List.length_cons]
    omega
   ·simp
theorem zir:∀(c:Nat) (l:List Run),(lasts c l).length≤l.length
 |_,[]=>by simp [lasts]
 |c,r::l=>by
  unfold lasts
  have:=zir (c - size r) l
  split
  ·simp
  ·split
   ·simp only [List.length_cons]
    omega
   ·simp
theorem zAk {α:Type} {f:α→List Int} {k n:Nat} {l:List α} (h:∀x,(f x).length=k) (hl:l.length≤n):(rows (l.map f)).length≤k * n + 1:=by
 have fl:∀l:List α,((l.map f).flatten).length=k * l.length:=by
  intro l
  induction l with
  |nil=>rfl
  |cons x l ih=>rw [List.map_cons,List.flatten_cons,List.length_append,h x,ih,List.length_cons,Nat.mul_add];omega
 unfold rows
 rw [List.length_cons,fl]
 have:=Nat.mul_le_mul_left k hl
 omega
theorem zWp (n:Nat) (l:List Nat):(shares n l).length=l.length:=by
 unfold shares
 split
 ·rw [List.length_map]
 ·simp
theorem z7y {s t:State} {c:Call} {l:List Int} (I:SInv s) (h:does s c=.ok (t,l)):l.length≤1290:=by
 have nr:=I.nruns
 have fl:∀p:Run→Bool,(s.runs.filter p).length≤256:=fun p=>Nat.le_trans (List.length_filter_le ..) nr
 have pl:∀ps:List (Nat×Nat),ps.length≤256→(pairs ps).length≤1290:=fun ps hp=>by
  unfold pairs
  exact Nat.le_trans (zAk (k:=2) (n:=256) (fun _=>rfl) hp) (by decide)
 have so:∀h tech c,(firsts c (sorted (liveOf s h tech))).length≤256:=fun h tech c=>by
  refine Nat.le_trans (zxp ..) ?_
  rw [(zPc (liveOf s h tech)).length_eq]
  exact fl _
 cases c
 case moveSome h g tech c=>
  simp only [does] at h
  repeat' split at h
  all_goals first
   |(cases h;done)
   |(rw [(zKe h).2];exact pl _ (so _ _ _))
 case cancelSome h tech c u=>
  simp only [does] at h
  repeat' split at h
  all_goals first
   |(cases h;done)
   |(rw [(zKe h).2];exact pl _ (so _ _ _))
 case withdraw d c=>
  simp only [does] at h
  repeat' split at h
  all_goals first
   |(cases h;done)
   |(rw [(zKe h).2]
     refine pl _ (Nat.le_trans (zir ..) ?_)
     rw [List.length_reverse]
     exact Nat.le_trans (List.length_filter_le ..) (fl _))
 case where_ n=>
  simp only [does] at h
  split at h
  ·cases h
  ·injection h with h
   injection h with h1 h2
   subst h2
   rename_i r _
   obtain ⟨_,_,_,_,st⟩:=r
   cases st<;>(show _≤1290)<;>simp [stNumbers]
 case holding h'=>
  simp only [does] at h
  split at h
  ·cases h
  ·injection h with h
   injection h with h1 h2
   subst h2
   exact Nat.le_trans (zAk (k:=4) (n:=256) (fun _=>rfl) (fl _)) (by decide)
 case statement u=>
  simp only [does] at h
  injection h with h
  injection h with h1 h2
  subst h2
  exact Nat.le_trans (zAk (k:=5) (n:=256) (fun _=>rfl) (fl _)) (by decide)
 case offers=>
  simp only [does] at h
  injection h with h
  injection h with h1 h2
  subst h2
  exact Nat.le_trans (zAk (k:=5) (n:=32) (fun _=>rfl) I.noff) (by decide)
 case disclose u used=>
  simp only [does] at h
  injection h with h
  injection h with h1 h2
  subst h2
  rw [List.length_map,zJm,zWp,zxl (by simp [TECHS]) (by simp [TECHS])]
  decide
 all_goals
  simp only [does] at h
  repeat' split at h
  all_goals first
   |(cases h;done)
   |(injection h with h;injection h with h1 h2;subst h2;decide)
   |(injection h with h;injection h with h1 h2;subst h2;(show _≤1290);simp)
   |(rw [(zKe h).2];simp)
theorem zry {s:State} {c:Call} (I:SInv s):(zY s c).2.length≤1291:=by
 unfold zY
 cases e:does s c with
 |error e=>
  show 1≤1291
  decide
 |ok x=>
  obtain ⟨t,l⟩:=x
  have:=z7y I e
  show l.length + 1≤1291
  omega
end VM
namespace Pv
open PySem PySem.Spec PyProof.Rows L2
abbrev Rn:=Vbemak.Run
abbrev Ste:=Vbemak.St
def stV (st:Ste):List V:=(Vbemak.stNumbers st).map V.int
abbrev lk (fs:List (Str×V)) (f:Str):Option V:=fs.lookup f
def rf (a b d m:Int) (t:Addr):List (Str×V):=[("first",.int a),("last",.int b),("device",.int d),("month",.int m),("status",.ref t)]
section
variable (a b d m:Int) (t:Addr)
theorem zBc:lk (rf a b d m t) "first"=some (.int a):=by rfl
theorem zGd:lk (rf a b d m t) "last"=some (.int b):=by rfl
theorem zLd:lk (rf a b d m t) "device"=some (.int d):=by rfl
theorem z9d:lk (rf a b d m t) "month"=some (.int m):=by rfl
theorem zFc:lk (rf a b d m t) "status"=some (.ref t):=by rfl
end
def zbf (H:Hp) (t:Addr) (st:Ste):Prop:=H t=some (.tup (stV st))
def zQb (C:Addr) (H:Hp) (a:Addr) (r:Rn):Prop:=∃dx t,H a=some (.ins C dx (rf r.first r.last r.device r.month t))∧zbf H t r.st
def But (l:Addr) (H H':Hp):Prop:=∀b o,H b=some o→b≠l→H' b=some o
theorem zeb {C a:Addr} {r:Rn} {H H':Hp} (s:zB H H') (h:zQb C H a r):zQb C H' a r:=by
 obtain ⟨dx,t,h1,h2⟩:=h
 exact ⟨dx,t,s _ _ h1,s _ _ h2⟩
section
variable {P:Program} {w:World} {K:PySem.W.Frag} {mg:Str→Option Value} {base:Heap} {A:Adr}
def zax (g:Int→List V):Sp:=fun vs H Q _=>∃n:Int,vs=[.int n]∧∀p,H p=Option.none→Q (.ref p) (upd H p (.tup (g n)))
def zbA (g:Int→Int→List V):Sp:=fun vs H Q _=>∃n m:Int,vs=[.int n,.int m]∧∀p,H p=Option.none→Q (.ref p) (upd H p (.tup (g n m)))
abbrev zDk (A:Adr):Sp:=zax fun n=>[.int 1,.int n,.int 0]
abbrev zas (A:Adr):Sp:=zbA fun n m=>[.int 2,.int n,.int m]
abbrev zlp (A:Adr):Sp:=zbA fun n m=>[.int 3,.int n,.int m]
theorem z6d (T:Txt K mg A):zG P w K mg base CX0 1 A.zVr A.zTr ["account"] (zDk A):=by
 refine T.zoc.F.ok z5v (fun vs H Q E h=>?_) (fun cdv B outer s H vs Q E hr h=>?_)
 ·obtain ⟨n,rfl,_⟩:=h
  rfl
 ·obtain ⟨n,rfl,k⟩:=h
  obtain ⟨t,ht⟩:=T.zKp
  refine ⟨_,ze (zh (zjf (za (zp (v:=.int 1) rfl ht ⟨t,rfl⟩) (za (pv 0) (za zm zb))))),?_⟩
  refine ⟨_,rfl,(by show 3≤sizeLine;decide),fun p hp=>?_⟩
  exact k p hp
theorem zms (T:Txt K mg A):zG P w K mg base CX0 1 A.zRm A.zMl ["account","offer"] (zas A):=by
 refine T.zzd.F.ok zbs (fun vs H Q E h=>?_) (fun cdv B outer s H vs Q E hr h=>?_)
 ·obtain ⟨n,m,rfl,_⟩:=h
  rfl
 ·obtain ⟨n,m,rfl,k⟩:=h
  obtain ⟨t,ht⟩:=T.zVg
  refine ⟨_,ze (zh (zjf (za (zp (v:=.int 2) rfl ht ⟨t,rfl⟩) (za (pv 0) (za (pv 1) zb))))),?_⟩
  refine ⟨_,rfl,_,rfl,(by show 3≤sizeLine;decide),fun p hp=>?_⟩
  exact k p hp
theorem zMi (T:Txt K mg A):zG P w K mg base CX0 1 A.zfk A.z3j ["account","use"] (zlp A):=by
 refine T.zpc.F.ok zEp (fun vs H Q E h=>?_) (fun cdv B outer s H vs Q E hr h=>?_)
 ·obtain ⟨n,m,rfl,_⟩:=h
  rfl
 ·obtain ⟨n,m,rfl,k⟩:=h
  obtain ⟨t,ht⟩:=T.zof
  refine ⟨_,ze (zh (zjf (za (zp (v:=.int 3) rfl ht ⟨t,rfl⟩) (za (pv 0) (za (pv 1) zb))))),?_⟩
  refine ⟨_,rfl,_,rfl,(by show 3≤sizeLine;decide),fun p hp=>?_⟩
  exact k p hp
def zny (C:Addr):Sp:=fun vs H Q _=>∃(p dx:Addr) (a b d m:Int) (t:Addr),vs=[.ref p,.int a,.int b,.int d,.int m,.ref t]∧H p=some (.ins C dx [])∧∀H':Hp,H' p=some (.ins C dx (rf a b d m t))→But p H H'→Q .non H'
abbrev ztj (A:Adr):Sp:=zny A.zo
theorem zBj (T:Txt K mg A):zG P w K mg base CX0 1 A.zkg A.zgg ["self","first","last","device","month","status"] (ztj A):=by
 refine T.ztp.ok z2u (fun vs H Q E h=>?_) (fun cdv B outer s H vs Q E hr h=>?_)
 ·obtain ⟨p,dx,a,b,d,m,t,rfl,_⟩:=h
  rfl
 ·obtain ⟨p,dx,a,b,d,m,t,rfl,hp,k⟩:=h
  refine ⟨_,zd (zdb (pv 0) (pv 1) rfl) (zd (zdb (pv 0) (pv 2) rfl) (zd (zdb (pv 0) (pv 3) rfl) (zd (zdb (pv 0) (pv 4) rfl) (ze (zdb (pv 0) (pv 5) rfl))))),?_⟩
  refine ⟨_,rfl,_,rfl,p,A.zo,dx,[],rfl,hp,T.zJ,T.znb,(by show 0 < 1000;decide),?_⟩
  refine ⟨_,rfl,_,rfl,p,A.zo,dx,_,rfl,zc,T.zJ,T.zXb,(by show 1 < 1000;decide),?_⟩
  refine ⟨_,rfl,_,rfl,p,A.zo,dx,_,rfl,zc,T.zJ,T.z0b,(by show 2 < 1000;decide),?_⟩
  refine ⟨_,rfl,_,rfl,p,A.zo,dx,_,rfl,zc,T.zJ,T.zec,(by show 3 < 1000;decide),?_⟩
  refine ⟨_,rfl,_,rfl,p,A.zo,dx,_,rfl,zc,T.zJ,T.zvb,(by show 4 < 1000;decide),?_⟩
  refine k _ zc fun b o e hb=>?_
  rw [zi hb,zi hb,zi hb,zi hb,zi hb]
  exact e
end
end Pv
namespace Pv
open PySem PySem.Spec PyProof.Rows L2
theorem But.same {l:Addr} {H H1 H2:Hp} (a:But l H H1) (b:zB H1 H2):But l H H2:=fun x o e h=>b x o (a x o e h)
theorem zmo {l:Addr} {H H1 H2:Hp} (a:zB H H1) (b:But l H1 H2):But l H H2:=fun x o e h=>b x o (a x o e) h
theorem But.trans {l:Addr} {H H1 H2:Hp} (a:But l H H1) (b:But l H1 H2):But l H H2:=fun x o e h=>b x o (a x o e h) h
theorem zq {l:Addr} {o:HO} {H:Hp} (h:H l=Option.none):zB H (upd H l o):=fun x u e=>by rw [zi (zk e h)];exact e
theorem But.upd {l:Addr} {o:HO} {H:Hp}:But l H (upd H l o):=fun x u e h=>by rw [zi h];exact e
theorem But.run {C a l:Addr} {r:Rn} {xs:List V} {H H':Hp} (s:But l H H') (hl:H l=some (.lst xs)) (h:zQb C H a r):zQb C H' a r:=by
 obtain ⟨dx,t,h1,h2⟩:=h
 exact ⟨dx,t,s _ _ h1 (zZb h1 hl (by intro q;cases q)),s _ _ h2 (zZb h2 hl (by intro q;cases q))⟩
theorem z1c {α β:Type} {F G:α→β→Prop} (f:∀a b,F a b→G a b):∀{l₁:List α} {l₂:List β},Paired F l₁ l₂→Paired G l₁ l₂
 |_,_,.nil=>.nil
 |_,_,.cons r t=>.cons (f _ _ r) (z1c f t)
theorem zNb {α β:Type} {F:α→β→Prop}:∀{l₁:List α} {l₂:List β},Paired F l₁ l₂→l₁.length=l₂.length
 |_,_,.nil=>rfl
 |_,_,.cons _ t=>by rw [List.length_cons,List.length_cons,zNb t]
theorem pat {α β:Type} {F:α→β→Prop}:∀{l₁:List α} {l₂:List β} {i:Nat} {a:α},Paired F l₁ l₂→l₁[i]?=some a→∃b,l₂[i]?=some b∧F a b
 |_,_,i,a,.nil,h=>by simp at h
 |_,_,0,a,.cons r _,h=>by
  simp at h
  subst h
  exact ⟨_,rfl,r⟩
 |_,_,i + 1,a,.cons _ t,h=>by
  obtain ⟨b,h1,h2⟩:=pat (i:=i) (a:=a) t (by simpa using h)
  exact ⟨b,by simpa using h1,h2⟩
theorem zcx {α β:Type} {F:α→β→Prop}:∀{l₁:List α} {l₂:List β} {b:β},Paired F l₁ (l₂++[b])→∃as a,l₁=as++[a]∧Paired F as l₂∧F a b
 |_,[],b,.cons r .nil=>⟨[],_,rfl,.nil,r⟩
 |_,x::l₂,b,.cons r t=>by
  obtain ⟨as,a,e,p,q⟩:=zcx (l₂:=l₂) t
  subst e
  exact ⟨_::as,a,rfl,.cons r p,q⟩
theorem zos {a b:Ste} (h:Vbemak.stNumbers a=Vbemak.stNumbers b):a=b:=by
 cases a<;>cases b<;>simp [Vbemak.stNumbers,Vbemak.nat] at h<;>first|(obtain ⟨h1,h2⟩:=h;rw [Int.ofNat_inj.mp h1,Int.ofNat_inj.mp h2])|rw [Int.ofNat_inj.mp h]
theorem zLp (st:Ste):∃i j k:Int,Vbemak.stNumbers st=[i,j,k]:=by
 cases st<;>exact ⟨_,_,_,rfl⟩
theorem z0C (i j k i' j' k':Int):PyData.eqv (.tuple [.int i,.int j,.int k]) (.tuple [.int i',.int j',.int k'])=decide ([i,j,k]=[i',j',k']):=by
 simp only [PyData.eqv,PyData.eqvAll,Bool.and_true,List.cons.injEq,and_true]
 by_cases h1:i=i'<;>by_cases h2:j=j'<;>by_cases h3:k=k'<;>simp [h1,h2,h3]
theorem z8s {K:PySem.W.Frag} {H:Hp} {t u:Addr} {a b:Ste} (h:zbf H t a) (h':zbf H u b):∃d e,Dp K H (.ref t) d∧Dp K H (.ref u) e∧SeqAt.shaped d=true∧SeqAt.shaped e=true∧PyData.eqv d e=decide (a=b):=by
 obtain ⟨i,j,k,e1⟩:=zLp a
 obtain ⟨i',j',k',e2⟩:=zLp b
 have h:H t=some (.tup [.int i,.int j,.int k]):=by
  have q:=h
  unfold zbf stV at q
  rw [e1] at q
  exact q
 have h':H u=some (.tup [.int i',.int j',.int k']):=by
  have q:=h'
  unfold zbf stV at q
  rw [e2] at q
  exact q
 refine ⟨.tuple [.int i,.int j,.int k],.tuple [.int i',.int j',.int k'],.tup (SqT.of h) (.cons (.int _) (.cons (.int _) (.cons (.int _) .nil))),.tup (SqT.of h') (.cons (.int _) (.cons (.int _) (.cons (.int _) .nil))),by rfl,by rfl,?_⟩
 rw [z0C,←e1,←e2]
 by_cases q:a=b
 ·subst q
  simp
 ·rw [decide_eq_false q,decide_eq_false fun z=>q (zos z)]
section
variable {P:Program} {w:World} {K:PySem.W.Frag} {mg:Str→Option Value} {base:Heap} {A:Adr}
def zlA (C:Addr):Sp:=fun vs H Q _=>∃(a b:Addr) (r u:Rn),vs=[.ref a,.ref b]∧zQb C H a r∧zQb C H b u∧Q (.bl (decide (VM.zCb r=VM.zCb u))) H
theorem z3y (r u:Rn):decide (VM.zCb r=VM.zCb u)=(decide (V.int r.device=V.int u.device)&&(decide (V.int r.month=V.int u.month)&&decide (r.st=u.st))):=by
 unfold VM.zCb
 rw [Bool.eq_iff_iff]
 simp only [Bool.and_eq_true,decide_eq_true_eq,Prod.mk.injEq,V.int.injEq,Int.ofNat_inj]
abbrev zNl (A:Adr):Sp:=zlA A.zo
theorem z1t (T:Txt K mg A):zG P w K mg base CX0 1 A.zqj A.zuj ["one","other"] (zNl A):=by
 refine T.zSc.F.ok zsu (fun vs H Q E h=>?_) (fun cdv B outer s H vs Q E hr h=>?_)
 ·obtain ⟨a,b,r,u,rfl,_⟩:=h
  rfl
 ·obtain ⟨a,b,r,u,rfl,⟨da,ta,ha,hta⟩,⟨db,tb,hb,htb⟩,k⟩:=h
  refine ⟨_,ze (zh (zdy (zLh zMb (zf (pv 0) rfl) (zf (pv 1) rfl) (zE _)) (zdy (zLh zMb (zf (pv 0) rfl) (zf (pv 1) rfl) (zE _)) (z7B (zLh (zku hr.units) (zf (pv 0) rfl) (zf (pv 1) rfl) (zE _)))))),?_⟩
  rw [z3y] at k
  refine ⟨_,rfl,a,A.zo,da,_,_,rfl,ha,T.zJ,T.z0b,zLd _ _ _ _ _,_,rfl,b,A.zo,db,_,_,rfl,hb,T.zJ,T.z0b,zLd _ _ _ _ _,rfl,_,rfl,?_⟩
  refine zmb (fun c1=>?_) fun c1=>?_
  ·rw [c1] at k
   refine ⟨_,rfl,a,A.zo,da,_,_,rfl,ha,T.zJ,T.zec,z9d _ _ _ _ _,_,rfl,b,A.zo,db,_,_,rfl,hb,T.zJ,T.zec,z9d _ _ _ _ _,rfl,_,rfl,?_⟩
   refine zmb (fun c2=>?_) fun c2=>?_
   ·rw [c2] at k
    obtain ⟨d,e,h1,h2,h3,h4,h5⟩:=z8s (K:=K) hta htb
    refine ⟨_,rfl,a,A.zo,da,_,_,rfl,ha,T.zJ,T.zvb,zFc _ _ _ _ _,_,rfl,b,A.zo,db,_,_,rfl,hb,T.zJ,T.zvb,zFc _ _ _ _ _,d,e,h1,h2,h3,h4,?_⟩
    rw [h5]
    exact k
   ·rw [Bool.eq_false_iff.mpr c2] at k
    exact k
  ·rw [Bool.eq_false_iff.mpr c1] at k
   exact k
def zU (C:Addr) (H:Hp) (l:Addr) (rs:List Rn):Prop:=∃as:List Addr,H l=some (.lst (as.map V.ref))∧Paired (zQb C H) as rs
theorem zVc {C l:Addr} {rs:List Rn} {H H':Hp} (s:zB H H') (h:zU C H l rs):zU C H' l rs:=by
 obtain ⟨as,h1,h2⟩:=h
 exact ⟨as,s _ _ h1,z1c (fun _ _ q=>zeb s q) h2⟩
def zMh (rs:List Rn):Int:=match rs.getLast? with
 |none=>0
 |some r=>r.last
def zGA (C:Addr):Sp:=fun vs H Q _=>∃(l:Addr) (rs:List Rn),vs=[.ref l]∧zU C H l rs∧Q (.int (zMh rs)) H
abbrev zEo (A:Adr):Sp:=zGA A.zo
theorem zDf (T:Txt K mg A):zG P w K mg base CX0 1 A.zZi A.zNi ["runs"] (zEo A):=by
 refine T.zVb.F.ok zqo (fun vs H Q E h=>?_) (fun cdv B outer s H vs Q E hr h=>?_)
 ·obtain ⟨l,rs,rfl,_⟩:=h
  rfl
 ·obtain ⟨l,rs,rfl,⟨as,hl,hp⟩,k⟩:=h
  refine ⟨_,ze (zh (zLz (zDo (pv 0) (fun _=>rfl)) (zf (zS zH (pv 0) (zen zmk zm) (fun _ _=>rfl)) rfl) zm)),?_⟩
  refine ⟨_,rfl,_,.inl ⟨_,SqL.of hl,rfl⟩,?_⟩
  rcases List.eq_nil_or_concat rs with rfl|⟨m,x,rfl⟩
  ·cases hp
   exact zO k
  ·rw [List.concat_eq_append] at hp k
   obtain ⟨as',a,rfl,p1,dx,t,h1,h2⟩:=zcx hp
   have hne:(!((as'++[a]).map V.ref).isEmpty)=true:=by
    rw [List.map_append]
    cases as'.map V.ref<;>rfl
   rw [hne]
   refine zic ⟨_,rfl,_,rfl,l,_,-1,.ref a,rfl,rfl,SqL.of hl,?_,a,A.zo,dx,_,_,rfl,h1,T.zJ,T.zXb,zGd _ _ _ _ _,?_⟩
   ·rw [List.map_append]
    exact z2s _ _
   ·have e:zMh (m++[x])=x.last:=by
     unfold zMh
     rw [List.getLast?_append]
     rfl
    rw [e] at k
    exact k
end
end Pv
namespace Pv
open PySem PySem.Spec PyProof.Rows L2
section
variable {P:Program} {w:World} {K:PySem.W.Frag} {mg:Str→Option Value} {base:Heap} {A:Adr}
def zNy (C:Addr):Sp:=fun vs H Q _=>∃(l a:Addr) (rs:List Rn) (r:Rn),vs=[.ref l,.ref a]∧zU C H l rs∧zQb C H a r∧rs.length < 100000∧
 ∀H':Hp,zU C H' l (VM.zpe rs r)→But l H H'→Q .non H'
theorem zld {C x dx:Addr} {H H1:Hp} (nx:H x=Option.none) (nd:H dx=Option.none) (k:But x (upd (upd H dx (.own x)) x (.ins C dx [])) H1):zB H H1:=zB.made nx nd k
theorem znz {α:Type} (l:List α) (a b:α):(l++[a]).set l.length b=l++[b]:=by
 rw [List.set_append_right _ _ (Nat.le_refl _),Nat.sub_self]
 rfl
theorem z9y (n:Nat):ixN (n + 1) (-1)=some n:=by
 unfold ixN
 rw [if_neg (by decide),if_pos (by omega)]
 congr 1
 omega
abbrev zsk (A:Adr):Sp:=zNy A.zo
theorem z7k (T:Txt K mg A):zG P w K mg base CX0 3 A.zIi A.zDi ["runs","run"] (zsk A):=by
 have GA:zG P w K mg base CX0 1 A.zqj A.zuj ["one","other"] (zNl A):=z1t T
 have GI:zG P w K mg base CX0 1 A.zkg A.zgg ["self","first","last","device","month","status"] (ztj A):=zBj T
 refine T.znc.F.ok zFw (fun vs H Q E h=>?_) (fun cdv B outer s H vs Q E hr h=>?_)
 ·obtain ⟨l,a,rs,r,rfl,_⟩:=h
  rfl
 ·obtain ⟨l,a,rs,r,rfl,⟨as,hl,hp⟩,hra,hlen,k⟩:=h
  have hr1:zhc 1 _:=hr.mono (by decide)
  refine ⟨_,ze (zI (PW.pt (z7p (zDo (pv 0) (fun _=>rfl)) (zon (zyb (z4m GA hr1 rfl T.zSc.m T.zSc.F.kp T.zSc.b .nil zVe (za (zS zH (pv 0) (zen zmk zm) (fun _ _=>rfl)) (za (pv 1) zb)))))))
   (ze (z8B (zYf T.zpp GI hr rfl T.zNs T.zAh .nil zVe (za (zf (zS zH (pv 0) (zen zmk zm) (fun _ _=>rfl)) rfl) (za (zf (pv 1) rfl) (za (zf (pv 1) rfl) (za (zf (pv 1) rfl) (za (zf (pv 1) rfl) zb))))))
    (zuB (pv 0) (zen zmk zm) set_list)))
   (ze (z4b (z6f PySem.F.plainAttrs_list PySem.F.slot_list_append PySem.F.type_list_append zSf (pv 0) (za (pv 1) zb))))),?_⟩
  have app:∀{D:Prop},(zU A.zo (upd H l (.lst (as.map V.ref++[V.ref a]))) l (rs++[r])→But l H (upd H l (.lst (as.map V.ref++[V.ref a])))→D)→D:=fun {D} f=>by
   refine f ⟨as++[a],?_,?_⟩ But.upd
   ·rw [zc,List.map_append]
    rfl
   ·exact Paired.snoc (z1c (fun _ _ q=>But.run But.upd hl q) hp) (But.run But.upd hl hra)
  have alen:(as.map V.ref).length < sizeLine:=by
   rw [List.length_map,zNb hp]
   exact Nat.lt_trans hlen (by decide)
  refine ⟨_,rfl,_,.inl ⟨_,SqL.of hl,rfl⟩,?_⟩
  rcases List.eq_nil_or_concat rs with rfl|⟨m,x,rfl⟩
  ·cases hp
   refine zO (zO ?_)
   refine ⟨_,rfl,.inl ⟨rfl,_,SqL.of hl⟩,_,rfl,l,_,_,rfl,rfl,hl,alen,?_⟩
   exact app fun h1 h2=>k _ h1 h2
  ·rw [List.concat_eq_append] at hp k app
   obtain ⟨as',b,rfl,p1,hb⟩:=zcx hp
   have hne:(!((as'++[b]).map V.ref).isEmpty)=true:=by
    rw [List.map_append]
    cases as'.map V.ref<;>rfl
   have hlast:atI ((as'++[b]).map V.ref) (-1)=some (V.ref b):=by
    rw [List.map_append]
    exact z2s _ _
   rw [hne]
   refine zic ?_
   refine ⟨_,rfl,_,rfl,l,_,-1,.ref b,rfl,rfl,SqL.of hl,hlast,_,rfl,b,a,x,r,rfl,hb,hra,_,rfl,?_⟩
   rw [VM.zmj] at k
   refine zmb (fun c=>?_) fun c=>?_
   ·have c:=of_decide_eq_true c
    rw [if_pos c] at k
    have c2:=c
    unfold VM.zCb at c2
    obtain ⟨dx,tx,hb1,hb2⟩:=hb
    obtain ⟨dr,tr,ha1,ha2⟩:=hra
    refine ⟨_,rfl,_,rfl,l,_,-1,.ref b,rfl,rfl,SqL.of hl,hlast,b,A.zo,dx,_,_,rfl,hb1,T.zJ,T.znb,zBc _ _ _ _ _,?_⟩
    refine ⟨_,rfl,a,A.zo,dr,_,_,rfl,ha1,T.zJ,T.zXb,zGd _ _ _ _ _,?_⟩
    refine ⟨_,rfl,a,A.zo,dr,_,_,rfl,ha1,T.zJ,T.z0b,zLd _ _ _ _ _,?_⟩
    refine ⟨_,rfl,a,A.zo,dr,_,_,rfl,ha1,T.zJ,T.zec,z9d _ _ _ _ _,?_⟩
    refine ⟨_,rfl,a,A.zo,dr,_,_,rfl,ha1,T.zJ,T.zvb,zFc _ _ _ _ _,?_⟩
    intro p dp np ndp nep
    refine ⟨p,dp,_,_,_,_,_,rfl,zc,fun H1 h1 k1=>⟨rfl,?_⟩⟩
    have s1:zB H H1:=zld np ndp k1
    refine ⟨_,rfl,_,rfl,l,_,-1,as'.length,rfl,rfl,s1 _ _ hl,?_,?_⟩
    ·rw [List.length_map,List.length_append]
     exact z9y _
    ·have e:((as'++[b]).map V.ref).set as'.length (V.ref p)=(as'++[p]).map V.ref:=by
      rw [List.map_append,List.map_append]
      have:=znz (as'.map V.ref) (V.ref b) (V.ref p)
      rw [List.length_map] at this
      exact this
     rw [e]
     have hl1:=s1 _ _ hl
     refine k _ ⟨as'++[p],zc,Paired.snoc (z1c (fun _ _ q=>But.run But.upd hl1 (zeb s1 q)) p1) ?_⟩ (zmo s1 But.upd)
     refine But.run But.upd hl1 ⟨dp,tr,h1,s1 _ _ ha2⟩
   ·have c:=of_decide_eq_false (Bool.eq_false_iff.mpr c)
    rw [if_neg c] at k
    refine ⟨_,rfl,.inl ⟨rfl,_,SqL.of hl⟩,_,rfl,l,_,_,rfl,rfl,hl,alen,?_⟩
    exact app fun h1 h2=>k _ h1 h2
end
end Pv
namespace Pv
open PySem PySem.Spec PyProof.Rows L2
abbrev Pm:=VM.zfd
def pf (ra:Addr) (a b:Int):List (Str×V):=[("run",.ref ra),("first",.int a),("last",.int b)]
section
variable (ra:Addr) (a b:Int)
theorem zMt:lk (pf ra a b) "run"=some (.ref ra):=by rfl
theorem zZo:lk (pf ra a b) "first"=some (.int a):=by rfl
theorem zuq:lk (pf ra a b) "last"=some (.int b):=by rfl
end
def zgf (C CP:Addr) (H:Hp) (a:Addr) (p:Pm):Prop:=∃dx ra,H a=some (.ins CP dx (pf ra p.first p.last))∧zQb C H ra p.run
def zNc (C CP:Addr) (H:Hp) (l:Addr) (ps:List Pm):Prop:=∃as:List Addr,H l=some (.lst (as.map V.ref))∧Paired (zgf C CP H) as ps
theorem z0d {C CP a:Addr} {p:Pm} {H H':Hp} (s:zB H H') (h:zgf C CP H a p):zgf C CP H' a p:=by
 obtain ⟨dx,ra,h1,h2⟩:=h
 exact ⟨dx,ra,s _ _ h1,zeb s h2⟩
theorem zyh {C CP l:Addr} {ps:List Pm} {H H':Hp} (s:zB H H') (h:zNc C CP H l ps):zNc C CP H' l ps:=by
 obtain ⟨as,h1,h2⟩:=h
 exact ⟨as,s _ _ h1,z1c (fun _ _ q=>z0d s q) h2⟩
theorem But.part {C CP a l:Addr} {p:Pm} {xs:List V} {H H':Hp} (s:But l H H') (hl:H l=some (.lst xs)) (h:zgf C CP H a p):zgf C CP H' a p:=by
 obtain ⟨dx,ra,h1,h2⟩:=h
 exact ⟨dx,ra,s _ _ h1 (zZb h1 hl (by intro q;cases q)),s.run hl h2⟩
def pd (as:List Addr) (ps:List Pm):List (Key×V):=(as.zip ps).map fun x=>(Sum.inl (x.2.run.first:Int),V.ref x.1)
theorem zNx {C CP:Addr} {H:Hp} (n:Nat):∀{as:List Addr} {ps:List Pm},Paired (zgf C CP H) as ps→
  (zLb (pd as ps) (Sum.inl (n:Int))=Option.none∧ps.find? (fun p=>p.run.first==n)=Option.none)∨∃a p,zLb (pd as ps) (Sum.inl (n:Int))=some (.ref a)∧ps.find? (fun p=>p.run.first==n)=some p∧zgf C CP H a p
 |_,_,.nil=>.inl ⟨rfl,rfl⟩
 |a::as,p::ps,.cons r t=>by
  have ih:=zNx n t
  show (zLb ((Sum.inl (p.run.first:Int),V.ref a)::pd as ps) _=_∧_)∨_
  by_cases e:p.run.first=n
  ·refine .inr ⟨a,p,zRe (by show (Sum.inl (p.run.first:Int):Key)=_;rw [e]),?_,r⟩
   rw [List.find?_cons_of_pos (by rw [e];exact beq_self_eq_true n)]
  ·have e2:¬(Sum.inl (p.run.first:Int):Key)=Sum.inl (n:Int):=fun q=>e (by injection q with q;exact Int.ofNat_inj.mp q)
   have e3:¬(p.run.first==n)=true:=fun q=>e (eq_of_beq q)
   rw [List.find?_cons_of_neg (by exact e3)]
   rcases ih with ⟨h1,h2⟩|⟨a',p',h1,h2,h3⟩
   ·exact .inl ⟨(zud e2).trans h1,h2⟩
   ·exact .inr ⟨a',p',(zud e2).trans h1,h2,h3⟩
theorem zTA (as:List Addr) (ps:List Pm) (a:Addr) (p:Pm) (h:as.length=ps.length):pd (as++[a]) (ps++[p])=pd as ps++[(Sum.inl (p.run.first:Int),V.ref a)]:=by
 unfold pd
 rw [List.zip_append h,List.map_append]
 rfl
theorem zbB (as:List Addr) (ps:List Pm):(pd as ps).length≤as.length:=by
 unfold pd
 rw [List.length_map,List.length_zip]
 exact Nat.min_le_left ..
theorem take_snoc {α:Type}:∀{l:List α} {i:Nat} {x:α},l[i]?=some x→l.take (i + 1)=l.take i++[x]
 |[],i,x,h=>by simp at h
 |a::l,0,x,h=>by
  have e:a=x:=Option.some.inj h
  subst e
  rfl
 |a::l,i + 1,x,h=>by
  have ih:=take_snoc (l:=l) (i:=i) (x:=x) h
  show a::l.take (i + 1)=a::l.take i++[x]
  rw [ih]
  rfl
theorem zCc {as:List Addr} {i:Nat} {y:V} (h:(as.map V.ref)[i]?=some y):∃a,as[i]?=some a∧y=V.ref a:=by
 rw [List.getElem?_map] at h
 cases e:as[i]? with
 |none=>
  rw [e] at h
  cases h
 |some a=>
  rw [e] at h
  exact ⟨a,rfl,(Option.some.inj h).symm⟩
section
variable {P:Program} {w:World} {K:PySem.W.Frag} {mg:Str→Option Value} {base:Heap} {A:Adr}
def zrw (C:Addr):Sp:=fun vs H Q _=>∃(p dx ra:Addr) (a b:Int),vs=[.ref p,.ref ra,.int a,.int b]∧H p=some (.ins C dx [])∧∀H':Hp,H' p=some (.ins C dx (pf ra a b))→But p H H'→Q .non H'
abbrev zSt (A:Adr):Sp:=zrw A.zcb
theorem zci (T:Txt K mg A):zG P w K mg base CX0 1 A.zlj A.zrj ["self","run","first","last"] (zSt A):=by
 refine T.z0n.ok zot (fun vs H Q E h=>?_) (fun cdv B outer s H vs Q E hr h=>?_)
 ·obtain ⟨p,dx,ra,a,b,rfl,_⟩:=h
  rfl
 ·obtain ⟨p,dx,ra,a,b,rfl,hp,k⟩:=h
  refine ⟨_,zd (zdb (pv 0) (pv 1) rfl) (zd (zdb (pv 0) (pv 2) rfl) (ze (zdb (pv 0) (pv 3) rfl))),?_⟩
  refine ⟨_,rfl,_,rfl,p,A.zcb,dx,[],rfl,hp,T.znd,T.z0f,(by show 0 < 1000;decide),?_⟩
  refine ⟨_,rfl,_,rfl,p,A.zcb,dx,_,rfl,zc,T.znd,T.zSe,(by show 1 < 1000;decide),?_⟩
  refine ⟨_,rfl,_,rfl,p,A.zcb,dx,_,rfl,zc,T.znd,T.zqf,(by show 2 < 1000;decide),?_⟩
  refine k _ zc fun b o e hb=>?_
  rw [zi hb,zi hb,zi hb]
  exact e
def zXA (C:Addr):Sp:=fun vs H Q _=>∃(l a t:Addr) (rs:List Rn) (r:Rn) (x y:Int) (x' y':Nat) (st:Ste),vs=[.ref l,.ref a,.int x,.int y,.ref t]∧x=x'∧y=y'∧zU C H l rs∧zQb C H a r∧zbf H t st∧rs.length < 100000∧
 ∀H':Hp,zU C H' l (VM.zPb rs r x' y' st)→But l H H'→Q .non H'
abbrev zkq (A:Adr):Sp:=zXA A.zo
theorem z8j (T:Txt K mg A):zG P w K mg base CX0 4 A.zhl A.zGl ["runs","run","first","last","status"] (zkq A):=by
 have GA:zG P w K mg base CX0 3 A.zIi A.zDi ["runs","run"] (zsk A):=z7k T
 have GI:zG P w K mg base CX0 1 A.zkg A.zgg ["self","first","last","device","month","status"] (ztj A):=zBj T
 refine T.z2b.F.ok zhq (fun vs H Q E h=>?_) (fun cdv B outer s H vs Q E hr h=>?_)
 ·obtain ⟨l,a,t,rs,r,x,y,x',y',st,rfl,_⟩:=h
  rfl
 ·obtain ⟨l,a,t,rs,r,x,y,x',y',st,rfl,rfl,rfl,hl,⟨da,ta,ha,hta⟩,ht,hlen,k⟩:=h
  have hr2:zhc 2 _:=hr.mono (by decide)
  refine ⟨_,ze (zI (zC zLg (pv 2) (pv 3) (zE _)) (ze (z4b (z4m GA hr rfl T.znc.m T.znc.F.kp T.znc.b .nil zVe (za (pv 0) (za
   (zYf T.zpp GI hr2 rfl T.zNs T.zAh .nil zVe (za (pv 2) (za (pv 3) (za (zf (pv 1) rfl) (za (zf (pv 1) rfl) (za (pv 4) zb)))))) zb))))) zx),?_⟩
  refine ⟨_,rfl,_,rfl,_,_,rfl,rfl,_,rfl,?_⟩
  unfold VM.zPb at k
  refine zmb (fun c=>?_) fun c=>?_
  ·have c:=of_decide_eq_true c
   rw [if_pos (show x'≤y' by omega)] at k
   refine ⟨_,rfl,_,rfl,_,rfl,_,rfl,a,A.zo,da,_,_,rfl,ha,T.zJ,T.z0b,zLd _ _ _ _ _,_,rfl,a,A.zo,da,_,_,rfl,ha,T.zJ,T.zec,z9d _ _ _ _ _,_,rfl,?_⟩
   intro p dp np ndp nep
   refine ⟨p,dp,_,_,_,_,_,rfl,zc,fun H1 h1 k1=>⟨rfl,?_⟩⟩
   have s1:zB H H1:=zld np ndp k1
   refine ⟨l,p,rs,⟨x',y',r.device,r.month,st⟩,rfl,zVc s1 hl,⟨dp,t,h1,s1 _ _ ht⟩,hlen,fun H2 h2 k2=>?_⟩
   exact k H2 h2 (zmo s1 k2)
  ·have c:=of_decide_eq_false (Bool.eq_false_iff.mpr c)
   rw [if_neg (show ¬x'≤y' by omega)] at k
   exact k _ hl fun b o e _=>e
def zaB (C:Addr):Sp:=fun vs H Q _=>∃(l a:Addr) (rs:List Rn) (r:Rn),vs=[.ref l,.ref a]∧zU C H l rs∧zQb C H a r∧rs.length < 100000∧
 ∀(H':Hp) (p:Addr),zU C H' p (VM.zpe rs r)→H p=Option.none→zB H H'→Q (.ref p) H'
abbrev zgv (A:Adr):Sp:=zaB A.zo
theorem zYu (T:Txt K mg A):zG P w K mg base CX0 4 A.z1o A.zwp ["runs","run"] (zgv A):=by
 have GA:zG P w K mg base CX0 3 A.zIi A.zDi ["runs","run"] (zsk A):=z7k T
 refine T.zje.F.ok zco (fun vs H Q E h=>?_) (fun cdv B outer s H vs Q E hr h=>?_)
 ·obtain ⟨l,a,rs,r,rfl,_⟩:=h
  rfl
 ·obtain ⟨l,a,rs,r,rfl,⟨as,hl,hp⟩,ha,hlen,k⟩:=h
  refine ⟨_,zd (zK (i:=2) zco.nd rfl (Or.inl rfl) (zDr zLm rfl T.zmu rfl (za (pv 0) zb)))
   (zd (z4b (z4m GA hr rfl T.znc.m T.znc.F.kp T.znc.b .nil zVe (za (pv 2) (za (pv 1) zb)))) (ze (zh (pv 2)))),?_⟩
  refine ⟨_,rfl,l,_,rfl,.inl (SqL.of hl),fun q hq=>?_⟩
  have s1:zB H (upd H q (.lst (as.map V.ref))):=zq hq
  refine ⟨_,rfl,_,rfl,q,a,rs,r,rfl,⟨as,zc,z1c (fun _ _ z=>zeb s1 z) hp⟩,zeb s1 ha,hlen,fun H2 h2 k2=>?_⟩
  refine ⟨_,rfl,k H2 q h2 hq fun b o e=>?_⟩
  exact k2 _ _ (s1 _ _ e) (zk e hq)
end
end Pv
namespace Pv
open PySem PySem.Spec PyProof.Rows L2
section
variable {P:Program} {w:World} {K:PySem.W.Frag} {mg:Str→Option Value} {base:Heap} {A:Adr}
def zOB (C CP:Addr):Sp:=fun vs H Q _=>∃(l pl t:Addr) (rs:List Rn) (ps:List Pm) (st:Ste),vs=[.ref l,.ref pl,.ref t]∧zU C H l rs∧zNc C CP H pl ps∧zbf H t st∧
 (ps.map fun p=>p.run.first).Nodup∧(∀p∈ps,1≤p.first)∧rs.length≤10000∧ps.length≤10000∧
 ∀(H':Hp) (q:Addr),zU C H' q (VM.z3c (VM.zjb ps) st rs)→H q=Option.none→zB H H'→Q (.ref q) H'
theorem zVw {α β:Type} {g:α→β} {l:List α} {i:Nat} {x:α} (nd:(l.map g).Nodup) (h:l[i]?=some x):∀y∈l.take i,g y≠g x:=by
 intro y hy e
 have e1:l.take (i + 1)=l.take i++[x]:=take_snoc h
 have n1:((l.take (i + 1)).map g).Nodup:=List.Sublist.nodup ((List.take_sublist _ _).map g) nd
 rw [e1,List.map_append,List.nodup_append] at n1
 exact n1.2.2 (g y) (List.mem_map.mpr ⟨y,hy,rfl⟩) (g x) (by simp) e
theorem zmd {α:Type} (i:Nat) (l:List α):(l.take i).length≤l.length:=by
 rw [List.length_take]
 exact Nat.min_le_right ..
theorem zRv {n:Nat}:∀{as:List Addr} {ps:List Pm},(∀p∈ps,p.run.first≠n)→zLb (pd as ps) (Sum.inl (n:Int))=Option.none
 |[],_,_=>rfl
 |_::_,[],_=>rfl
 |a::as,p::ps,h=>by
  have e2:¬(Sum.inl (p.run.first:Int):Key)=Sum.inl (n:Int):=fun q=>h p (List.mem_cons_self ..) (by injection q with q;exact Int.ofNat_inj.mp q)
  exact (zud e2).trans (zRv fun x hx=>h x (List.mem_cons_of_mem _ hx))
abbrev zBu (A:Adr):Sp:=zOB A.zo A.zcb
theorem zzu (T:Txt K mg A):zG P w K mg base CX0 5 A.zaq A.z9p ["runs","parts","status"] (zBu A):=by
 have zqy:=@z7k P w K mg base A T
 have zle:=@z8j P w K mg base A T
 have nN:=zWn.nd
 refine T.zge.F.ok zWn (fun vs H Q E h=>?_) (fun cdv B outer s H vs Q E hr h=>?_)
 ·obtain ⟨l,pl,t,rs,ps,st,rfl,_⟩:=h
  rfl
 ·obtain ⟨l,pl,t,rs,ps,st,rfl,⟨as,hl,hp⟩,⟨pas,hpl,hpp⟩,ht,nd,h1,hlen,hplen,k⟩:=h
  have hu:=zM hr
  refine ⟨_,(zd (zK (i:=3) nN rfl (Or.inl rfl) zNo)
   (zd (zMd PassesOwn.never rfl (zYb (pv 1)) (zrb (i:=4) nN rfl (Or.inl rfl)) (ze (zYq hu (pv 3) (zf (zf (pv 4) rfl) rfl) (pv 4) rfl)))
   (zd (zK (i:=5) nN rfl (Or.inl rfl) (zA zb))
   (zd (zMd PassesOwn.never rfl (zYb (pv 0)) (zrb (i:=6) nN rfl (Or.inl rfl)) (zd (zK (i:=7) nN rfl (Or.inl rfl) (zbz hu (pv 3) (zf (pv 6) rfl) ⟨rfl,rfl,rfl,rfl⟩))
   (ze (zI (zcp (zNB (pv 7))) (ze (z4b (zn zqy hr T.znc (za (pv 5) (za (pv 6) zb))))) (zd (z4b (zn zle hr T.z2b (za (pv 5) (za (pv 6) (za (zf (pv 6) rfl) (za (zZ zod (zf (pv 7) rfl) zm) (za (zf (pv 6) rfl) zb)))))))
   (zd (z4b (zn zle hr T.z2b (za (pv 5) (za (pv 6) (za (zf (pv 7) rfl) (za (zf (pv 7) rfl) (za (pv 2) zb)))))))
   (ze (z4b (zn zle hr T.z2b (za (pv 5) (za (pv 6) (za (zZ zdd (zf (pv 7) rfl) zm) (za (zf (pv 6) rfl) (za (zf (pv 6) rfl) zb))))))))))))))
   (ze (zh (pv 5))))))),?_⟩
  intro d hd
  have s0:zB H (upd H d (.dK [])):=zq hd
  refine ⟨_,rfl,pl,rfl,⟨_,SqL.of (s0 _ _ hpl)⟩,zwd (K:=K) (a:=pl) (xs:=pas.map V.ref) (fun i σ H'=>∃v:Option V,σ=[some (.ref l),some (.ref pl),some (.ref t),some (.ref d),v,none,none,none]∧zB H H'∧H' d=some (.dK (pd (pas.take i) (ps.take i))))
   ⟨none,rfl,s0,zc⟩ (fun i σ H' _ ⟨_,_,s1,_⟩=>SqL.of (s1 _ _ hpl)) ?_ ?_⟩
  ·rintro i y σ H' hi ⟨v,rfl,s1,hd1⟩
   obtain ⟨a,ha,rfl⟩:=zCc hi
   obtain ⟨p,hpi,hpa⟩:=pat hpp ha
   obtain ⟨dp,ra,e1,dr,tr,e2,e3⟩:=z0d s1 hpa
   refine ⟨_,rfl,_,rfl,_,rfl,a,A.zcb,dp,_,_,rfl,e1,T.znd,T.z0f,zMt _ _ _,ra,A.zo,dr,_,_,rfl,e2,T.zJ,T.znb,zBc _ _ _ _ _,d,_,rfl,zRk.k (k:=Sum.inl (p.run.first:Int)) hd1 ?_,?_⟩
   ·refine Nat.lt_of_le_of_lt (zbB _ _) (Nat.lt_of_le_of_lt (zmd i pas) ?_)
    rw [zNb hpp]
    exact Nat.lt_of_le_of_lt hplen (by decide)
   ·refine ⟨_,rfl,fun b o e=>?_,?_⟩
    ·rw [zi (zk e hd)]
     exact s1 _ _ e
    ·rw [zc,zNt _ (zRv (zVw nd hpi)),take_snoc ha,take_snoc hpi,zTA]
     rw [List.length_take,List.length_take,zNb hpp]
  ·rintro σ H1 ⟨v4,rfl,s1,hd1⟩
   have ew:(pas.map V.ref).length=pas.length:=List.length_map ..
   rw [ew,List.take_length,zNb hpp,List.take_length] at hd1
   refine ⟨Nat.zero_le _,fun q hq=>?_⟩
   have s2:zB H1 (upd H1 q (.lst [])):=zq hq
   have hq0:H q=Option.none:=s1.free hq
   have ndq:d≠q:=zk hd1 hq
   refine ⟨_,rfl,l,rfl,⟨_,SqL.of (s2 _ _ (s1 _ _ hl))⟩,zwd (K:=K) (a:=l) (xs:=as.map V.ref) (fun i σ H'=>∃v6 v7:Option V,σ=[some (.ref l),some (.ref pl),some (.ref t),some (.ref d),v4,some (.ref q),v6,v7]∧zB H H'∧H' d=some (.dK (pd pas ps))∧
     zU A.zo H' q ((rs.take i).foldl (VM.zV (VM.zjb ps) st) []))
    ⟨none,none,rfl,s1.trans s2,s2 _ _ hd1,⟨[],zc,.nil⟩⟩ (fun i σ H' _ ⟨_,_,_,s3,_⟩=>SqL.of (s3 _ _ hl)) ?_ ?_⟩
   ·rintro i y σ H2 hi ⟨v6,v7,rfl,s3,hd3,hq3⟩
    obtain ⟨a,ha,rfl⟩:=zCc hi
    obtain ⟨r,hri,hra⟩:=pat hp ha
    have hra:=zeb s3 hra
    obtain ⟨da,ta,ha1,ha2⟩:=id hra
    obtain ⟨as2,hq3l,hq3p⟩:=id hq3
    have acclen:((rs.take i).foldl (VM.zV (VM.zjb ps) st) []).length≤3 * rs.length:=by
     have:=VM.zkm (VM.zjb ps) st (rs.take i) []
     have:=zmd i rs
     simp only [List.length_nil] at *
     omega
    have fin:∀{D:Prop} {H':Hp} {v:Option V},zU A.zo H' q (VM.zV (VM.zjb ps) st ((rs.take i).foldl (VM.zV (VM.zjb ps) st) []) r)→But q H2 H'→
      ((∃v6 v7:Option V,[some (.ref l),some (.ref pl),some (.ref t),some (.ref d),v4,some (.ref q),some (.ref a),v]=[some (.ref l),some (.ref pl),some (.ref t),some (.ref d),v4,some (.ref q),v6,v7]∧zB H H'∧H' d=some (.dK (pd pas ps))∧
       zU A.zo H' q ((rs.take (i + 1)).foldl (VM.zV (VM.zjb ps) st) []))→D)→D:=fun {D H' v} g1 g2 g3=>by
     refine g3 ⟨_,_,rfl,fun b o e=>g2 _ _ (s3 _ _ e) (zk e hq0),g2 _ _ hd3 ndq,?_⟩
     rw [take_snoc hri,List.foldl_append]
     exact g1
    refine ⟨_,rfl,d,rfl,.inl ⟨_,.inl hd3⟩,_,rfl,a,A.zo,da,_,_,rfl,ha1,T.zJ,T.znb,zBc _ _ _ _ _,_,zpd.k (k:=Sum.inl (r.first:Int)) hd3,?_⟩
    rcases zNx (C:=A.zo) (CP:=A.zcb) (H:=H2) r.first (z1c (fun _ _ z=>z0d s3 z) hpp) with ⟨e1,e2⟩|⟨b,p,e1,e2,e3⟩
    ·rw [e1]
     refine ⟨_,rfl,_,rfl,?_⟩
     refine zic ?_
     refine ⟨_,rfl,_,rfl,q,a,_,r,rfl,hq3,hra,by omega,fun H' g1 g2=>?_⟩
     refine fin ?_ g2 id
     unfold VM.zV VM.zjb
     rw [e2]
     exact g1
    ·rw [e1]
     obtain ⟨db,rb,hb1,hb2⟩:=e3
     have pm:p∈ps:=List.mem_of_find?_eq_some e2
     have p1:=h1 p pm
     refine ⟨_,rfl,_,rfl,?_⟩
     refine zO ?_
     refine ⟨_,rfl,_,rfl,_,rfl,a,A.zo,da,_,_,rfl,ha1,T.zJ,T.znb,zBc _ _ _ _ _,_,rfl,b,A.zcb,db,_,_,rfl,hb1,T.znd,T.zSe,zZo _ _ _,_,_,rfl,rfl,_,rfl,a,A.zo,da,_,_,rfl,ha1,T.zJ,T.zvb,zFc _ _ _ _ _,?_⟩
     refine ⟨q,a,ta,_,r,_,_,r.first,p.first - 1,r.st,rfl,rfl,by omega,hq3,hra,ha2,by omega,fun H3 g1 g2=>?_⟩
     have s4:zB H H3:=fun b o e=>g2 _ _ (s3 _ _ e) (zk e hq0)
     have ta3:zbf H3 ta r.st:=g2 _ _ ha2 (zZb ha2 hq3l (by intro q;cases q))
     have ra3:zQb A.zo H3 a r:=g2.run hq3l hra
     obtain ⟨da',ta',ha1',ha2'⟩:=id ra3
     obtain ⟨db3,rb3,hb3,_⟩:=g2.part hq3l ⟨db,rb,hb1,hb2⟩
     have l1:=VM.zUf ((rs.take i).foldl (VM.zV (VM.zjb ps) st) []) r r.first (p.first - 1) r.st
     obtain ⟨as3,g1l,g1p⟩:=id g1
     refine ⟨_,rfl,_,rfl,_,rfl,b,A.zcb,db3,_,_,rfl,hb3,T.znd,T.zSe,zZo _ _ _,_,rfl,b,A.zcb,db3,_,_,rfl,hb3,T.znd,T.zqf,zuq _ _ _,_,rfl,?_⟩
     refine ⟨q,a,t,_,r,_,_,p.first,p.last,st,rfl,rfl,rfl,g1,ra3,s4 _ _ ht,by omega,fun H4 g3 g4=>?_⟩
     have s5:zB H H4:=fun b o e=>g4 _ _ (s4 _ _ e) (zk e hq0)
     have ra4:zQb A.zo H4 a r:=g4.run g1l ra3
     obtain ⟨da4,ta4,ha4,hta4⟩:=id ra4
     obtain ⟨db4,rb4,hb4,_⟩:=g4.part g1l (g2.part hq3l ⟨db,rb,hb1,hb2⟩)
     have l2:=VM.zUf (VM.zPb ((rs.take i).foldl (VM.zV (VM.zjb ps) st) []) r r.first (p.first - 1) r.st) r p.first p.last st
     refine ⟨_,rfl,_,rfl,_,rfl,b,A.zcb,db4,_,_,rfl,hb4,T.znd,T.zqf,zuq _ _ _,_,_,rfl,rfl,_,rfl,a,A.zo,da4,_,_,rfl,ha4,T.zJ,T.zXb,zGd _ _ _ _ _,_,rfl,a,A.zo,da4,_,_,rfl,ha4,T.zJ,T.zvb,zFc _ _ _ _ _,?_⟩
     refine ⟨q,a,ta4,_,r,_,_,p.last + 1,r.last,r.st,rfl,rfl,rfl,g3,ra4,hta4,by omega,fun H5 g5 g6=>?_⟩
     refine fin ?_ ((g2.trans g4).trans g6) id
     unfold VM.zV VM.zjb
     rw [e2]
     exact g5
   ·rintro σ H2 ⟨v6,v7,rfl,s3,hd3,hq3⟩
    rw [List.length_map,zNb hp,List.take_length] at hq3
    exact ⟨_,rfl,k H2 q hq3 hq0 s3⟩
end
end Pv
namespace Pv
open PySem PySem.Spec PyProof.Rows L2
theorem zzj (a b:Nat) (r:Rn):∀l:List Rn,VM.zL a b (l++[r])=VM.zL a b l++(match VM.between a b r with
  |none=>[]
  |some p=>[⟨r,p.1,p.2⟩])
 |[]=>by
  show (match VM.between a b r with
   |none=>VM.zL a b []
   |some p=>⟨r,p.1,p.2⟩::VM.zL a b [])=_
  cases VM.between a b r<;>rfl
 |x::l=>by
  show (match VM.between a b x with
   |none=>VM.zL a b (l++[r])
   |some p=>⟨x,p.1,p.2⟩::VM.zL a b (l++[r]))=(match VM.between a b x with
   |none=>VM.zL a b l
   |some p=>⟨x,p.1,p.2⟩::VM.zL a b l)++_
  rw [zzj a b r l]
  cases VM.between a b x<;>rfl
theorem z4e (a b:Nat):∀l:List Rn,(VM.zL a b l).length≤l.length
 |[]=>Nat.le_refl _
 |x::l=>by
  have ih:=z4e a b l
  show (match VM.between a b x with
   |none=>VM.zL a b l
   |some p=>⟨x,p.1,p.2⟩::VM.zL a b l).length≤_
  cases VM.between a b x with
  |none=>
   show (VM.zL a b l).length≤l.length + 1
   omega
  |some p=>
   show (VM.zL a b l).length + 1≤l.length + 1
   omega
theorem zuz (a b:Nat):(if (b:Int) > (a:Int) then (b:Int) else (a:Int))=((max a b:Nat):Int):=by
 by_cases h:a < b
 ·rw [if_pos (by omega)]
  omega
 ·rw [if_neg (by omega)]
  omega
theorem zwz (a b:Nat):(if (b:Int) < (a:Int) then (b:Int) else (a:Int))=((min a b:Nat):Int):=by
 by_cases h:b < a
 ·rw [if_pos (by omega)]
  omega
 ·rw [if_neg (by omega)]
  omega
section
variable {P:Program} {w:World} {K:PySem.W.Frag} {mg:Str→Option Value} {base:Heap} {A:Adr}
def zEl (A:Adr):Sp:=fun vs H Q _=>∃(l:Addr) (rs:List Rn),vs=[.ref l]∧zU A.zo H l rs∧rs.length≤10000∧∀H':Hp,zB H H'→Q (.int (rs.map fun r=>(r.last:Int) - r.first + 1).sum) H'
theorem zBd (T:Txt K mg A):zG P w K mg base CX0 1 A.zZl A.zGm ["runs"] (zEl A):=by
 have nN:=zrl.nd
 refine T.zwb.F.ok zrl (fun vs H Q E h=>?_) (fun cdv B outer s H vs Q E hr h=>?_)
 ·obtain ⟨l,rs,rfl,_⟩:=h
  rfl
 ·obtain ⟨l,rs,rfl,⟨as,hl,hp⟩,hlen,k⟩:=h
  have hu:=zM hr
  refine ⟨_,(ze (zh (z5 (zbm rfl) (by rfl) T.v_sum (by rfl) (za (zxh (tt:=zSo) (te:=(tOp (rI0 fun i j=>.int (i + j)) (tOp (rI0 fun i j=>.int (i - j)) (z6h K (zAb 1) "last") (z6h K (zAb 1) "first")) (tC (.int 1)))) rfl nN (zYb (pv 0)) (z9c (own:=[("run",1)]) (by rfl)) (fun _ _ _ _ _=>(zrb (i:=1) nN rfl (Or.inl rfl))) (fun _ _ _ _ _=>zKh) (fun _ _ _ _ _=>(zZ zdd (zZ zod (zf (pv 1) rfl) (zf (pv 1) rfl)) zm))) zb)))),?_⟩
  refine ⟨_,rfl,l,rfl,⟨_,SqL.of hl⟩,fun D hD=>zUe (K:=K) (a:=l) (xs:=as.map V.ref) (fun i H'=>zB H H'∧H' D=some (.lst (((rs.take i).map fun r=>(r.last:Int) - r.first + 1).map V.int)))
   ⟨zq hD,zc⟩ (fun i H' _ ⟨s1,_⟩=>SqL.of (s1 _ _ hl)) ?_ ?_⟩
  ·rintro i y H' hi ⟨s1,hD1⟩
   obtain ⟨a,ha,rfl⟩:=zCc hi
   obtain ⟨r,hri,hra⟩:=pat hp ha
   obtain ⟨da,ta,ha1,ha2⟩:=zeb s1 hra
   refine ⟨rfl,?_⟩
   refine ⟨_,rfl,a,A.zo,da,_,_,rfl,ha1,T.zJ,T.zXb,zGd _ _ _ _ _,_,rfl,a,A.zo,da,_,_,rfl,ha1,T.zJ,T.znb,zBc _ _ _ _ _,_,_,rfl,rfl,_,_,rfl,rfl,_,hD1,?_,?_,?_⟩
   ·rw [List.length_map,List.length_map]
    exact Nat.lt_of_le_of_lt (Nat.le_trans (zmd i rs) hlen) (by decide)
   ·exact fun b o e=>by rw [zi (zk e hD)];exact s1 _ _ e
   ·rw [zc,take_snoc hri,List.map_append,List.map_append]
    rfl
  ·rintro H' ⟨s1,hD1⟩
   rw [List.length_map,zNb hp,List.take_length] at hD1
   exact ⟨D,_,rfl,SqL.of hD1,k H' s1⟩
def zRo (A:Adr):Sp:=fun vs H Q _=>∃(l:Addr) (rs:List Rn) (x y:Int) (a b:Nat),vs=[.ref l,.int x,.int y]∧x=a∧y=b∧zU A.zo H l rs∧rs.length≤10000∧
 ∀(H':Hp) (q:Addr),zNc A.zo A.zcb H' q (VM.zL a b rs)→zB H H'→Q (.ref q) H'
theorem zyd (T:Txt K mg A):zG P w K mg base CX0 3 A.zzi A.zXi ["runs","first","last"] (zRo A):=by
 have zlf:=@zci P w K mg base A T
 have nN:=zYh.nd
 refine T.zub.F.ok zYh (fun vs H Q E h=>?_) (fun cdv B outer s H vs Q E hr h=>?_)
 ·obtain ⟨l,rs,x,y,a,b,rfl,_⟩:=h
  rfl
 ·obtain ⟨l,rs,x,y,a,b,rfl,rfl,rfl,⟨as,hl,hp⟩,hlen,k⟩:=h
  have hu:=zM hr
  refine ⟨_,(zd (zK (i:=3) nN rfl (Or.inl rfl) (zA zb))
   (zd (zMd PassesOwn.never rfl (zYb (pv 0)) (zrb (i:=4) nN rfl (Or.inl rfl)) (zd (zK (i:=5) nN rfl (Or.inl rfl) (z5 (zPf rfl) (by rfl) T.zXk (by rfl) (za (zf (pv 4) rfl) (za (pv 1) zb))))
   (zd (zK (i:=6) nN rfl (Or.inl rfl) (z5 (zMr rfl) (by rfl) T.z9v (by rfl) (za (zf (pv 4) rfl) (za (pv 2) zb))))
   (ze (zI (zC zLg (pv 5) (pv 6) (zE _)) (ze (z4b (z6f PySem.F.plainAttrs_list PySem.F.slot_list_append PySem.F.type_list_append zSf (pv 3) (za (zYf T.zkn zlf (hr.mono (by decide)) rfl T.z0o T.zIg .nil zVe (za (pv 4) (za (pv 5) (za (pv 6) zb)))) zb)))) zx)))))
   (ze (zh (pv 3))))),?_⟩
  refine ⟨Nat.zero_le _,fun q hq=>?_⟩
  have s0:zB H (upd H q (.lst [])):=zq hq
  refine ⟨_,rfl,l,rfl,⟨_,SqL.of (s0 _ _ hl)⟩,zwd (K:=K) (a:=l) (xs:=as.map V.ref) (fun i σ H'=>∃v4 v5 v6:Option V,σ=[some (.ref l),some (.int a),some (.int b),some (.ref q),v4,v5,v6]∧zB H H'∧zNc A.zo A.zcb H' q (VM.zL a b (rs.take i)))
   ⟨none,none,none,rfl,s0,⟨[],zc,.nil⟩⟩ (fun i σ H' _ ⟨_,_,_,_,s1,_⟩=>SqL.of (s1 _ _ hl)) ?_ ?_⟩
  ·rintro i y σ H1 hi ⟨v4,v5,v6,rfl,s1,⟨qs,hq1,hq2⟩⟩
   obtain ⟨c,hc,rfl⟩:=zCc hi
   obtain ⟨r,hri,hrc⟩:=pat hp hc
   have hrc:=zeb s1 hrc
   obtain ⟨dc,tc,hc1,hc2⟩:=id hrc
   refine ⟨_,rfl,c,A.zo,dc,_,_,rfl,hc1,T.zJ,T.znb,zBc _ _ _ _ _,_,rfl,_,_,rfl,?_⟩
   rw [zuz]
   refine ⟨_,rfl,c,A.zo,dc,_,_,rfl,hc1,T.zJ,T.zXb,zGd _ _ _ _ _,_,rfl,_,_,rfl,?_⟩
   rw [zwz]
   refine ⟨_,rfl,_,rfl,_,_,rfl,rfl,_,rfl,?_⟩
   have plen2:qs.length < sizeLine:=by
    have h1:=z4e a b (rs.take i)
    have h2:=zmd i rs
    rw [zNb hq2]
    exact Nat.lt_of_le_of_lt (Nat.le_trans h1 (Nat.le_trans h2 hlen)) (by decide)
   refine zmb (fun c1=>?_) fun c1=>?_
   ·have c1:=of_decide_eq_true c1
    have e1:VM.between a b r=some (max r.first a,min r.last b):=if_pos (by omega)
    refine ⟨_,rfl,.inl ⟨rfl,_,SqL.of hq1⟩,_,rfl,_,rfl,_,rfl,?_⟩
    intro p dp np ndp nep
    refine ⟨p,dp,c,_,_,rfl,zc,fun H2 h1 k1=>⟨rfl,?_⟩⟩
    have s2:zB H1 H2:=zld np ndp k1
    have hq3:=s2 _ _ hq1
    refine ⟨q,_,_,rfl,rfl,hq3,by rw [List.length_map];exact plen2,?_⟩
    refine ⟨_,_,_,rfl,fun z o e=>?_,?_⟩
    ·rw [zi (zk e hq)]
     exact s2 _ _ (s1 _ _ e)
    ·rw [take_snoc hri,zzj,e1]
     refine ⟨qs++[p],?_,Paired.snoc (z1c (fun _ _ z=>But.upd.part hq3 (z0d s2 z)) hq2) ?_⟩
     ·rw [zc,List.map_append]
      rfl
     ·exact But.upd.part hq3 ⟨dp,c,h1,zeb s2 hrc⟩
   ·have c1:=of_decide_eq_false (Bool.eq_false_iff.mpr c1)
    have e1:VM.between a b r=none:=if_neg (by omega)
    refine ⟨_,_,_,rfl,s1,?_⟩
    rw [take_snoc hri,zzj,e1,List.append_nil]
    exact ⟨qs,hq1,hq2⟩
  ·rintro σ H1 ⟨v4,v5,v6,rfl,s1,hq1⟩
   rw [List.length_map,zNb hp,List.take_length] at hq1
   exact ⟨_,rfl,k H1 q hq1 s1⟩
end
end Pv
namespace Pv
open PySem PySem.Spec PyProof.Rows L2
def z6k (rs:List Rn) (a b h:Nat):Bool:=!(decide ((b:Int) < a)||decide ((b:Int) > zMh rs))&&(VM.zL a b rs).all fun p=>decide (p.run.st=.live h)
section
variable {P:Program} {w:World} {K:PySem.W.Frag} {mg:Str→Option Value} {base:Heap} {A:Adr}
def zev (A:Adr):Sp:=fun vs H Q _=>∃(l:Addr) (rs:List Rn) (x y z:Int) (a b c:Nat),vs=[.ref l,.int x,.int y,.int z]∧x=a∧y=b∧z=c∧zU A.zo H l rs∧rs.length≤10000∧
 ∀H':Hp,zB H H'→Q (.bl (z6k rs a b c)) H'
theorem zNn (T:Txt K mg A):zG P w K mg base CX0 4 A.z2o A.zOp ["runs","first","last","account"] (zev A):=by
 have zsc:=@z6d P w K mg base A T
 have zKd:=@zDf P w K mg base A T
 have zWb:=@zyd P w K mg base A T
 have nN:=z3n.nd
 refine T.zHd.F.ok z3n (fun vs H Q E h=>?_) (fun cdv B outer s H vs Q E hr h=>?_)
 ·obtain ⟨l,rs,x,y,z,a,b,c,rfl,_⟩:=h
  rfl
 ·obtain ⟨l,rs,x,y,z,a,b,c,rfl,rfl,rfl,rfl,hl,hlen,k⟩:=h
  have hu:=zM hr
  refine ⟨_,(zd (zI (PW.pt (zBh (zC zgn (pv 2) (pv 1) (zE _)) (z3f (zC zGh (pv 2) (zn zKd hr T.zVb (za (pv 0) zb)) (zE _))))) (ze (zh zYk)) zx)
   (ze (zh (z5 (zIB rfl) (by rfl) T.v_all (by rfl) (za (zxh (tt:=zSo) (te:=(tOp (zhz K) (z6h K (z6h K (zAb 4) "run") "status") (zEh (zDk A) [] E0 (zVd (zAb 3) zjh)))) rfl nN (zYb (zn zWb hr T.zub (za (pv 0) (za (pv 1) (za (pv 2) zb))))) (z9c (own:=[("part",4)]) (by rfl)) (fun _ _ _ _ _=>(zrb (i:=4) nN rfl (Or.inl rfl))) (fun _ _ _ _ _=>zKh) (fun _ _ _ _ _=>(zLh (zku hr.units) (zf (zf (pv 4) rfl) rfl) (zn zsc hr T.zoc (za (pv 3) zb)) (zE _)))) zb))))),?_⟩
  refine ⟨_,rfl,_,rfl,_,_,rfl,rfl,_,rfl,?_⟩
  unfold z6k at k
  refine zmb (fun c1=>?_) fun c1=>?_
  ·rw [c1] at k
   refine zic ?_
   exact k H (zB.refl _)
  ·rw [Bool.eq_false_iff.mpr c1] at k
   refine ⟨_,rfl,_,rfl,l,rs,rfl,hl,_,_,rfl,rfl,_,rfl,?_⟩
   refine zmb (fun c2=>?_) fun c2=>?_
   ·rw [c2] at k
    exact k H (zB.refl _)
   ·rw [Bool.eq_false_iff.mpr c2] at k
    refine ⟨_,rfl,_,rfl,_,rfl,l,rs,_,_,a,b,rfl,rfl,rfl,hl,hlen,fun H1 q hq s1=>?_⟩
    obtain ⟨qs,hq1,hq2⟩:=hq
    have hplen:=z4e a b rs
    refine ⟨q,rfl,⟨_,SqL.of hq1⟩,fun D hD=>zUe (K:=K) (a:=q) (xs:=qs.map V.ref) (fun i H'=>zB H1 H'∧H' D=some (.lst ((((VM.zL a b rs).take i).map fun p=>decide (p.run.st=.live c)).map V.bl)))
     ⟨zq hD,zc⟩ (fun i H' _ ⟨s1,_⟩=>SqL.of (s1 _ _ hq1)) ?_ ?_⟩
    ·rintro i y H' hi ⟨s2,hD1⟩
     obtain ⟨e,he,rfl⟩:=zCc hi
     obtain ⟨p,hpi,hpa⟩:=pat hq2 he
     obtain ⟨dp,ra,e1,dr,tr,e2,e3⟩:=z0d s2 hpa
     refine ⟨rfl,?_⟩
     refine ⟨_,rfl,e,A.zcb,dp,_,_,rfl,e1,T.znd,T.z0f,zMt _ _ _,ra,A.zo,dr,_,_,rfl,e2,T.zJ,T.zvb,zFc _ _ _ _ _,_,rfl,_,rfl,fun u hu=>?_⟩
     have s3:zB H' (upd H' u (.tup [.int 1,.int c,.int 0])):=zq hu
     obtain ⟨d,d',g1,g2,g3,g4,g5⟩:=z8s (K:=K) (s3 _ _ e3) (show zbf (upd H' u (.tup [.int 1,.int c,.int 0])) u (.live c) from zc)
     refine ⟨d,d',g1,g2,g3,g4,_,s3 _ _ hD1,?_,?_,?_⟩
     ·rw [List.length_map,List.length_map]
      exact Nat.lt_of_le_of_lt (Nat.le_trans (zmd i _) (Nat.le_trans hplen hlen)) (by decide)
     ·exact fun b o e=>by rw [zi (zk e hD)];exact s3 _ _ (s2 _ _ e)
     ·rw [zc,take_snoc hpi,List.map_append,List.map_append,g5]
      rfl
    ·rintro H' ⟨s2,hD1⟩
     rw [List.length_map,zNb hq2,List.take_length] at hD1
     refine ⟨D,_,rfl,SqL.of hD1,?_⟩
     have e:(((VM.zL a b rs).map fun p=>decide (p.run.st=.live c)).all id)=(VM.zL a b rs).all fun p=>decide (p.run.st=.live c):=by
      rw [List.all_map]
      rfl
     rw [e]
     exact k H' (s1.trans s2)
end
end Pv
namespace L2
open PySem PySem.Spec PyProof.Rows
abbrev Known (a:Addr) (o:Obj):HO:=.ext fun h=>h.get? a=some o
theorem zLe {P:Program} {w:World} {H:Hp} {h:Heap} {a:Addr} {o:Obj} (e:h.get? a=some o):zzb P w H h a (Known a o):=⟨e,⟨o,e⟩,fun _ _ p k=>k o p⟩
section
variable {X:Cx} {pins:List (Addr×Obj)} {σ:List (Option V)} {H:Hp} {s:Shared}
theorem Inv.known {a:Addr} {o:Obj} (I:Inv X pins σ H s) (h:H a=some (Known a o)):s.heap.get? a=some o:=(I.hok a _ h).1
theorem Inv.knownUpd {a:Addr} {o:Obj} {f:Obj→Obj} {u:HO} {t':Nat} (I:Inv X pins σ H s) (h:H a=some (Known a o)) (he:∃q,(s.heap.update a f).get? a=some q) (new:zzb X.prog X.w (upd H a u) (s.heap.update a f) a u):
  Inv X pins σ (upd H a u) { s with heap:=s.heap.update a f,toks:=t' }:=
 I.write (x:=a) (e:=a) (by rw [h];trivial) (.inl rfl) (fun b v hb q=>(Heap.get?_update_other _ _ (Ne.symm hb)).trans q) he new
end
theorem z6n {α β:Type} {R:α→β→Prop} {l l':List α} (p:l.Perm l'):∀{m':List β},Paired R l' m'→∃m,Paired R l m∧m.Perm m':=by
 induction p with
 |nil=>exact fun {m'} h=>⟨m',h,List.Perm.refl _⟩
 |@cons x l1 l2 _ ih=>
  intro m' h
  cases h with
  |@cons _ b _ bs r t=>
   obtain ⟨m,h1,h2⟩:=ih t
   exact ⟨b::m,.cons r h1,h2.cons b⟩
 |@swap x y l1=>
  intro m' h
  cases h with
  |@cons _ b _ bs r t=>
   cases t with
   |@cons _ c _ cs r2 t2=>exact ⟨c::b::cs,.cons r2 (.cons r t2),List.Perm.swap ..⟩
 |trans _ _ ih1 ih2=>
  intro m' h
  obtain ⟨m,h1,h2⟩:=ih2 h
  obtain ⟨m2,h3,h4⟩:=ih1 h1
  exact ⟨m2,h3,h4.trans h2⟩
theorem zrp {α β γ δ:Type} {R:α→γ→Prop} {S:β→δ→Prop}:∀{l:List α} {m:List β} {l':List γ} {m':List δ},Paired R l l'→Paired S m m'→Paired (fun p q=>R p.1 q.1∧S p.2 q.2) (l.zip m) (l'.zip m')
 |_,_,_,_,.nil,_=>.nil
 |_,_,_,_,.cons _ _,.nil=>.nil
 |_,_,_,_,.cons r t,.cons r2 t2=>.cons ⟨r,r2⟩ (zrp t t2)
theorem zJp {α β γ δ:Type} {R:α→β→Prop} {S:γ→δ→Prop} {f:α→γ} {g:β→δ} (h:∀a b,R a b→S (f a) (g b)):∀{l:List α} {m:List β},Paired R l m→Paired S (l.map f) (m.map g)
 |_,_,.nil=>.nil
 |_,_,.cons r t=>.cons (h _ _ r) (zJp h t)
theorem zse {α β:Type} {R:α→β→Prop}:∀{l:List α} {m:List β} {i:Nat} {b:β},Paired R l m→m[i]?=some b→∃a,l[i]?=some a∧R a b
 |_,_,i,b,.nil,h=>by simp at h
 |_,_,0,b,.cons r _,h=>by
  simp at h
  subst h
  exact ⟨_,rfl,r⟩
 |_,_,i + 1,b,.cons _ t,h=>by
  obtain ⟨a,h1,h2⟩:=zse (i:=i) (b:=b) t (by simpa using h)
  exact ⟨a,by simpa using h1,h2⟩
def zSk (H:Hp) (u:Value) (k:Int×Int):Prop:=∃t,u=.ref t∧H t=some (.tup [.int k.1,.int k.2])
def KLe (p q:Int×Int):Prop:=p.1 < q.1∨(p.1=q.1∧p.2≤q.2)
def sh0:Nat→Bool:=fun _=>false
section
variable {P:Program} {w:World} {H:Hp} {h:Heap}
theorem zpv {u:Value} {k:Int×Int} (ok:HOk P w H h) (e:zSk H u k):∃a o xs n t t',u=.ref a∧h.get? a=some o∧o.cls=.type "tuple"∧o.data=.seq xs n∧xs.toList=[Value.int k.1 t,Value.int k.2 t']:=by
 obtain ⟨a,rfl,ha⟩:=e
 obtain ⟨_,its,r,o,h1,h2,n,h3⟩:=(show zzb P w H h a (.tup [.int k.1,.int k.2]) from ok a _ ha)
 cases r with
 |cons r1 r2=>
  cases r2 with
  |cons r2 r3=>
   cases r3
   obtain ⟨t,rfl⟩:=r1
   obtain ⟨t',rfl⟩:=r2
   exact ⟨a,o,_,n,t,t',rfl,h1,h2,h3,by simp⟩
theorem zjq {u:Value} {k:Int×Int} (ok:HOk P w H h) (e:zSk H u k):G.tupKeyC h sh0 u=some [Sum.inl k.1,Sum.inl k.2]:=by
 obtain ⟨a,o,xs,n,t,t',rfl,h1,h2,h3,h4⟩:=zpv ok e
 unfold G.tupKeyC
 have e1:G.isTupObj h (.ref a)=true:=by simp [G.isTupObj,h1,h2]
 rw [if_pos e1]
 simp only [tupKey,h1,h3]
 rw [h4]
 rfl
theorem zcr:∀{us:List Value} {ks:List (Int×Int)},HOk P w H h→Paired (zSk H) us ks→∃fs:List Value,TupsOf h sh0 us fs∧fs.length=us.length
 |_,_,_,.nil=>⟨[],.nil,rfl⟩
 |u::us,k::ks,ok,.cons r t=>by
  obtain ⟨fs,h1,h2⟩:=zcr ok t
  obtain ⟨a,o,xs,n,t1,t2,rfl,e1,e2,e3,e4⟩:=zpv ok r
  have e5:xs[0]?=some (Value.int k.1 t1):=by
   rw [←Array.getElem?_toList,e4]
   rfl
  exact ⟨Value.int k.1 t1::fs,.cons ⟨a,o,xs,n,rfl,e1,e2,e3,e5,fun _=>⟨_,_,rfl⟩,fun q=>absurd q (by decide)⟩ h1,by simp [h2]⟩
end
theorem zbC {p q:Int×Int} (h:lexLt itemOrd [Sum.inl q.1,Sum.inl q.2] [Sum.inl p.1,Sum.inl p.2]=false):KLe p q:=by
 obtain ⟨h1,h2⟩:=lex_false.mp h
 have h1:decide (q.1 < p.1)=false:=h1
 have h1:=of_decide_eq_false h1
 rcases h2 with h2|h2
 ·have h2:decide (p.1 < q.1)=true:=h2
  exact .inl (of_decide_eq_true h2)
 ·by_cases e:p.1 < q.1
  ·exact .inl e
  ·obtain ⟨h3,_⟩:=lex_false.mp h2
   have h3:decide (q.2 < p.2)=false:=h3
   have h3:=of_decide_eq_false h3
   exact .inr ⟨by omega,by omega⟩
theorem zNu {P:Program} {w:World} {H:Hp} {h:Heap} {arr:Array Keyed} {us vs:List Value} {ks:List (Int×Int)} {xs:List V} (ok:HOk P w H h) (hk:Paired (zSk H) us ks) (hv:Vals xs vs)
  (hp:arr.toList.Perm (us.zip vs)) (hs:SortedToK (G.tupKindC h sh0) arr arr.size):∃zs:List ((Int×Int)×V),zs.Perm (ks.zip xs)∧Vals (zs.map (·.2)) (arr.toList.map (·.2))∧zs.Pairwise fun p q=>KLe p.1 q.1:=by
 have flip:∀{l:List V} {m:List Value},Vals l m→Paired (fun u x=>RelV x u) m l:=fun {l m} r=>by
  induction r with
  |nil=>exact .nil
  |cons a _ ih=>exact .cons a ih
 have unflip:∀{m:List Value} {l:List V},Paired (fun u x=>RelV x u) m l→Vals l m:=fun {m l} r=>by
  induction r with
  |nil=>exact .nil
  |cons a _ ih=>exact .cons a ih
 obtain ⟨zs,h1,h2⟩:=z6n hp (zrp hk (flip hv))
 refine ⟨zs,h2,unflip (zJp (fun _ _ q=>q.2) h1),?_⟩
 rw [List.pairwise_iff_getElem]
 intro i j hi hj hij
 obtain ⟨a,ha,ra⟩:=zse h1 (List.getElem?_eq_getElem hi)
 obtain ⟨b,hb,rb⟩:=zse h1 (List.getElem?_eq_getElem hj)
 have hj2:j < arr.size:=by
  have:=(List.getElem?_eq_some_iff.mp hb).1
  simpa using this
 have q:=hs i j (Nat.le_of_lt hij) hj2
 have ka:KK (G.tupKindC h sh0) arr i=[Sum.inl (zs[i].1.1),Sum.inl (zs[i].1.2)]:=by
  unfold KK
  rw [Array.getElem?_toList] at ha
  rw [ha]
  show (G.tupKeyC h sh0 a.1).getD []=_
  rw [zjq ok ra.1]
  rfl
 have kb:KK (G.tupKindC h sh0) arr j=[Sum.inl (zs[j].1.1),Sum.inl (zs[j].1.2)]:=by
  unfold KK
  rw [Array.getElem?_toList] at hb
  rw [hb]
  show (G.tupKeyC h sh0 b.1).getD []=_
  rw [zjq ok rb.1]
  rfl
 rw [ka,kb] at q
 exact zbC q
end L2
namespace L2
open PySem PySem.Spec PyProof.Rows
section
variable {X:Cx} {pins:List (Addr×Obj)} {σ:List (Option V)} {A:Around} {E:Value→Shared→Prop} {f a kS:Addr} {vs:List Value} {xs:List V} {keys:List (Int×Int)} {e1:Nat} {P:PySem.Fin→Shared→Prop}
abbrev z5q (X:Cx) (pins:List (Addr×Obj)) (σ:List (Option V)) (H:Hp) (a kS:Addr) (keys:List (Int×Int)) (xs:List V) (R:Shared→Prop):Prop:=
 ∀(H1:Hp) (s1:Shared) (zs:List ((Int×Int)×V)),Inv X pins σ H1 s1→(∀b o,H b=some o→b≠a→b≠kS→H1 b=some o)→H1 a=some (.lst (zs.map (·.2)))→zs.Perm (keys.zip xs)→(zs.Pairwise fun p q=>KLe p.1 q.1)→R s1
theorem zlv {H:Hp} {s:Shared} {st:SortSt} {kA:Array Value} {e:Nat} (I:Inv X pins σ H s) (ha:H a=some (Known a (seqObj "list" #[] e1))) (hk:H kS=some (Known kS (seqObj "list" kA e))) (hne:kS≠a)
  (hks:Paired (zSk H) kA.toList keys) (hv:Vals xs vs) (hlen:keys.length=vs.length) (hZ:vs.length≤sizeLine)
  (hp:(arrOf st).Perm (kA.zip vs.toArray)) (hs:SortedToK (G.tupKindC s.heap sh0) (arrOf st) (arrOf st).size) (hfl:failedOf st=none)
  (h:z5q X pins σ H a kS keys xs fun s1=>P (.done (.ret .none)) s1):wpAny (model X.prog X.w) A (ksk_tail a false e1 (.ref kS) st) P E s:=by
 have hpl:(arrOf st).toList.Perm (kA.toList.zip vs):=by
  have:=Array.perm_iff_toList_perm.mp hp
  rw [ksk_zip] at this
  exact this
 obtain ⟨zs,z1,z2,z3⟩:=zNu I.hok hks hv hpl hs
 have hkl:kA.size=vs.length:=by
  have:=Paired.length hks
  rw [Array.length_toList] at this
  omega
 have hal:(arrOf st).size=vs.length:=by rw [hp.size_eq,Array.size_zip,hkl,List.size_toArray,Nat.min_self]
 have nk:=I.known hk
 obtain ⟨e2,ho2⟩:∃e2,(s.heap.update kS (Obj.mapSeq fun _=>(#[]:Array Value))).get? kS=some (seqObj "list" #[] e2):=⟨_,get?_update_seq nk fun _=>#[]⟩
 have I1:=I.knownUpd (t':=s.toks) (f:=Obj.mapSeq fun _=>(#[]:Array Value)) (u:=Known kS (seqObj "list" #[] e2)) hk ⟨_,ho2⟩ (zLe ho2)
 have ha1:upd H kS (Known kS (seqObj "list" #[] e2)) a=some (Known a (seqObj "list" #[] e1)):=by rw [zi hne.symm];exact ha
 have na1:(s.heap.update kS (Obj.mapSeq fun _=>(#[]:Array Value))).get? a=some (seqObj "list" #[] e1):=I1.known ha1
 obtain ⟨c,hc⟩:∃c,((s.heap.update kS (Obj.mapSeq fun _=>(#[]:Array Value))).update a (Obj.mapSeq fun _=>(arrOf st).map (·.2))).get? a=some (seqObj "list" ((arrOf st).map (·.2)) c):=⟨_,get?_update_seq na1 fun _=>(arrOf st).map (·.2)⟩
 have hzl:(zs.map (·.2)).length≤sizeLine:=by
  have:=z2.length
  rw [this,List.length_map,Array.length_toList,hal]
  exact hZ
 have I2:=I1.knownUpd (t':=s.toks) (f:=Obj.mapSeq fun _=>(arrOf st).map (·.2)) (u:=.lst (zs.map (·.2))) ha1 ⟨_,hc⟩ ⟨hzl,(arrOf st).toList.map (·.2),c,z2,by
  have ea:((arrOf st).map (·.2))=((arrOf st).toList.map (·.2)).toArray:=by
   apply Array.toList_inj.mp
   rw [Array.toList_map]
  rw [←ea]
  exact hc⟩
 unfold ksk_tail
 simp only [Bool.false_eq_true,if_false]
 refine wpAny_bind (listUpdate_at nk rfl ?_ (by rw [hkl];exact hZ) (Nat.zero_le _))
 refine wpAny_bind (wpAny_letGo ?_)
 refine wpAny_bind (seqEpoch_at na1 rfl ?_)
 refine wpAny_bind (listUpdate_at na1 rfl ?_ (Nat.zero_le _) (Nat.le_trans (Nat.le_of_eq ((Array.size_map ..).trans hal)) (Nat.le_succ_of_le hZ)))
 rw [hfl]
 simp only [bne_self_eq_false,Bool.false_eq_true,if_false]
 refine wpAny_pure (h _ _ zs I2 (fun b o q n1 n2=>?_) zc z1 z3)
 rw [zi n1,zi n2]
 exact q
theorem zVB {H:Hp} {s:Shared} {kA:Array Value} {e:Nat} (I:Inv X pins σ H s) (ha:H a=some (Known a (seqObj "list" #[] e1))) (hk:H kS=some (Known kS (seqObj "list" kA e))) (hne:kS≠a)
  (hks:Paired (zSk H) kA.toList keys) (hv:Vals xs vs) (hlen:keys.length=vs.length) (hZ:vs.length≤sizeLine)
  (h:z5q X pins σ H a kS keys xs fun s1=>P (.done (.ret .none)) s1):wpAny (model X.prog X.w) A (ksk_end a false vs.toArray e1 (.ref kS) kA) P E s:=by
 have hkl:kA.size=vs.length:=by
  have:=Paired.length hks
  rw [Array.length_toList] at this
  omega
 have hzs:(kA.zip vs.toArray).size=vs.length:=by rw [Array.size_zip,hkl,List.size_toArray,Nat.min_self]
 unfold ksk_end
 simp only [Bool.false_eq_true,if_false]
 by_cases h2:vs.toArray.size < 2
 ·rw [if_pos h2,if_pos h2]
  refine wpAny_bind (wpAny_pure ?_)
  rw [StateT.run_pure]
  refine wpAny_bind (wpAny_pure ?_)
  try dsimp only
  refine zlv (st:=SortSt.mk' general' (kA.zip vs.toArray) #[] 7 none) I ha hk hne hks hv hlen hZ (Array.Perm.refl _) ?_ rfl h
  intro i j hij hj
  have hj2:j < (kA.zip vs.toArray).size:=hj
  rw [List.size_toArray] at h2
  have:i=j:=by omega
  subst this
  exact KeyOrd.kle_refl _
 ·rw [if_neg h2,if_neg h2]
  rw [List.size_toArray] at h2
  obtain ⟨fs,ht,hf⟩:=zcr I.hok hks
  have hne2:0 < fs.length:=by
   rw [hf,Array.length_toList]
   omega
  have ek:kA=kA.toList.toArray:=(Array.toArray_toList).symm
  have kind:∀{Q:SortKind→Shared→Prop},Q (tuples' true) s→wpAny (model X.prog X.w) A (keyKind' kA) Q E s:=fun {Q} q=>by
   have:=tup_kind (M:=model X.prog X.w) (A:=A) (E:=E) (s:=s) (Q:=Q) hne2 ht q
   rw [Array.toArray_toList] at this
   exact this
  refine wpAny_bind (kind ?_)
  have h0:KeysOf (G.tupKindC s.heap sh0) (kA.zip vs.toArray):=fun p hp=>by
   rw [ksk_zip] at hp
   obtain ⟨i,hi⟩:=List.getElem?_of_mem (List.of_mem_zip (a:=p.1) (b:=p.2) hp).1
   obtain ⟨k,_,hk2⟩:=zop hks hi
   exact ⟨_,zjq I.hok hk2⟩
  refine wpAny_bind (wpAny_mono (G.wpS_sortRunsSt (κ:=G.tupKindC s.heap sh0) (kd:=tuples' true) (a₀:=kA.zip vs.toArray) (st:=SortSt.mk' (tuples' true) (kA.zip vs.toArray) #[] 7 none)
   (Q:=fun _ st'=>(arrOf st').Perm (kA.zip vs.toArray)∧failedOf st'=none∧SortedToK (G.tupKindC s.heap sh0) (arrOf st') (kA.zip vs.toArray).size)
   (G.tupC_ltAt true (G.KeepsTups.refl _)) h0 ⟨Array.Perm.refl _,rfl,rfl⟩ rfl (Stable.refl _) (by rw [hzs];omega) fun st' a1 a2 a3 _=>⟨a1,a2,a3⟩) ?_ fun _ _ e=>e)
  rintro ⟨⟨⟩,st'⟩ s' ⟨rfl,hp,hf',hs⟩
  try dsimp only
  exact zlv I ha hk hne hks hv hlen hZ hp (by rw [hp.size_eq];exact hs) hf' h
abbrev zoo (X:Cx) (pins:List (Addr×Obj)) (σ:List (Option V)) (A:Around) (f:Addr) (H:Hp) (N:Addr→Prop) (keys:List (Int×Int)) (xs:List V):Prop:=
 ∀(i:Nat) (x:V) (u:Value) (k:Int×Int) (H1:Hp) (s1:Shared),xs[i]?=some x→RelV x u→keys[i]?=some k→(∀b o,H b=some o→¬N b→H1 b=some o)→Inv X pins σ H1 s1→
  wpAny (model X.prog X.w) A (call (.ref f) [u]) (EP X pins σ fun v H2=>zB H1 H2∧∃t,v=.ref t∧H2 t=some (.tup [.int k.1,.int k.2])) (fun _ _=>False) s1
theorem z3A {H:Hp} {s:Shared} (I:Inv X pins σ H s) (ha:H a=some (Known a (seqObj "list" #[] e1))) (hk:H kS=some (Known kS (seqObj "list" #[] 0))) (hne:kS≠a)
  (hv:Vals xs vs) (hlen:keys.length=xs.length) (hZ:vs.length≤sizeLine) (turn:zoo X pins σ A f H (·=kS) keys xs)
  (h:z5q X pins σ H a kS keys xs fun s1=>P (.done (.ret .none)) s1):wpAny (model X.prog X.w) A (ksk_rest a (.ref f) false vs.toArray e1 (.ref kS)) P E s:=by
 have hl2:=hv.length
 unfold ksk_rest
 refine wpAny_bind (wpAny_rule ?_)
 first
  |rw [List.forIn_toArray]
  |(rw [←Array.forIn_toList];simp only [List.toList_toArray])
  |rw [←Array.forIn_toList]
 refine wpAny_bind (ksk_fold (fun i s'=>∃H1 kA e,Inv X pins σ H1 s'∧(∀b o,H b=some o→b≠kS→H1 b=some o)∧H1 kS=some (Known kS (seqObj "list" kA e))∧Paired (zSk H1) kA.toList (keys.take i)) vs 0 s
  ⟨H,#[],0,I,fun _ _ q _=>q,hk,.nil⟩ ?step ?done)
 case step=>
  rintro j x s' hx ⟨H1,kA,e,I1,s1,hk1,hks⟩
  simp only [Nat.zero_add] at hks ⊢
  have hj:j < vs.length:=(List.getElem?_eq_some_iff.mp hx).1
  obtain ⟨k,hkj⟩:∃k,keys[j]?=some k:=⟨_,List.getElem?_eq_getElem (by omega)⟩
  obtain ⟨xv,hxv⟩:∃xv,xs[j]?=some xv:=⟨_,List.getElem?_eq_getElem (by omega)⟩
  have rxv:RelV xv x:=by
   obtain ⟨u,hu,r⟩:=hv.get hxv
   rw [hx] at hu
   cases hu
   exact r
  have hz:kA.size≤vs.length:=by
   have h1:=Paired.length hks
   rw [Array.length_toList,List.length_take] at h1
   omega
  refine wpAny_bind (wpAny_attempt (wpAny_mono (turn j xv x k H1 s' hxv rxv hkj (fun b o q n=>s1 b o q n) I1) (fun v s'' he=>?_) fun _ _ hF=>hF.elim))
  obtain ⟨v',H2,I2,rv,sm,t,rfl,ht⟩:=he
  cases rv
  try dsimp only
  have hk2:=sm _ _ hk1
  have nk:=I2.known hk2
  obtain ⟨c2,hc2⟩:∃c2,(s''.heap.update kS (Obj.mapSeq (·.push (.ref t)))).get? kS=some (seqObj "list" (kA.push (.ref t)) c2):=⟨_,get?_update_seq nk (·.push (.ref t))⟩
  have I3:=I2.knownUpd (t':=s''.toks) (f:=Obj.mapSeq (·.push (.ref t))) (u:=Known kS (seqObj "list" (kA.push (.ref t)) c2)) hk2 ⟨_,hc2⟩ (zLe hc2)
  have nt:∀t' ys,H2 t'=some (.tup ys)→t'≠kS:=fun t' ys q=>zZb q hk2 (by intro z;cases z)
  refine wpAny_bind (listUpdate_at nk rfl ?_ (by omega) (Nat.le_trans (Nat.le_of_eq (Array.size_push ..)) (by omega)))
  refine wpAny_pure ⟨rfl,_,kA.push (.ref t),c2,I3,fun b o q n=>?_,zc,?_⟩
  ·rw [zi n]
   exact sm _ _ (s1 b o q n)
  ·have ek:keys.take (j + 1)=keys.take j++[k]:=by rw [List.take_add_one,hkj];simp
   have ea:(kA.push (Value.ref t)).toList=kA.toList++[Value.ref t]:=by simp
   rw [ea,ek]
   refine Paired.snoc (Paired.mapP hks fun u k' ⟨t',q1,q2⟩=>⟨t',q1,?_⟩) ⟨t,rfl,?_⟩
   ·rw [zi (nt _ _ (sm _ _ q2))]
    exact sm _ _ q2
   ·rw [zi (nt _ _ ht)]
    exact ht
 case done=>
  rintro s' ⟨H1,kA,e,I1,s1,hk1,hks⟩
  have e3:keys.take (0 + vs.length)=keys:=List.take_of_length_le (by omega)
  rw [e3] at hks
  try dsimp only
  refine wpAny_bind (listItems_at (I1.known hk1) rfl ?_)
  exact zVB I1 (s1 _ _ ha hne.symm) hk1 hne hks hv (by omega) hZ fun H2 s2 zs J j1 j2 j3 j4=>h H2 s2 zs J (fun b o q n1 n2=>j1 b o (s1 b o q n2) n1 n2) j2 j3 j4
theorem zZA {H:Hp} {s:Shared} {n:Nat} (I:Inv X pins σ H s) (ha:H a=some (Known a (seqObj "list" vs.toArray n))) (hv:Vals xs vs) (hlen:keys.length=xs.length) (hZ:vs.length≤sizeLine)
  (turn:zoo X pins σ A f H (·=a) keys xs) (h:∀(H1:Hp) (s1:Shared) (zs:List ((Int×Int)×V)),Inv X pins σ H1 s1→(∀b o,H b=some o→b≠a→H1 b=some o)→H1 a=some (.lst (zs.map (·.2)))→zs.Perm (keys.zip xs)→(zs.Pairwise fun p q=>KLe p.1 q.1)→P (.done (.ret .none)) s1):
  wpAny (model X.prog X.w) A (ksk_tree a (.ref f) false) P E s:=by
 have ho:=I.known ha
 obtain ⟨e1,ho1⟩:∃e1,(s.heap.update a (Obj.mapSeq fun _=>(#[]:Array Value))).get? a=some (seqObj "list" #[] e1):=⟨_,get?_update_seq ho fun _=>#[]⟩
 have I1:=I.knownUpd (t':=s.toks) (f:=Obj.mapSeq fun _=>(#[]:Array Value)) (u:=Known a (seqObj "list" #[] e1)) ha ⟨_,ho1⟩ (zLe ho1)
 unfold ksk_tree
 refine wpAny_bind (listItems_at ho rfl ?_)
 refine wpAny_bind (listUpdate_at ho rfl ?_ (by rw [List.size_toArray];exact hZ) (Nat.zero_le _))
 refine wpAny_bind (seqEpoch_at ho1 rfl ?_)
 refine wpAny_bind (wpAny_newTuple ?_ (by show vs.length≤_;exact hZ))
 refine wpAny_bind (wpAny_newList ?_ (Nat.zero_le _))
 refine wpAny_holding ?_
 have hn:upd H a (Known a (seqObj "list" #[] e1)) ((s.heap.update a (Obj.mapSeq fun _=>(#[]:Array Value))).push (seqObj "tuple" vs.toArray 0)).objs.size=none:=
  I1.hok.fresh (by rw [size_push'];exact Nat.le_succ _)
 have hkn:H ((s.heap.update a (Obj.mapSeq fun _=>(#[]:Array Value))).push (seqObj "tuple" vs.toArray 0)).objs.size=none:=I.hok.fresh (by rw [size_push',Heap.size_update];exact Nat.le_succ _)
 have hne:((s.heap.update a (Obj.mapSeq fun _=>(#[]:Array Value))).push (seqObj "tuple" vs.toArray 0)).objs.size≠a:=(zk ha hkn).symm
 have I3:=I1.laid (t':=s.toks) (a:=((s.heap.update a (Obj.mapSeq fun _=>(#[]:Array Value))).push (seqObj "tuple" vs.toArray 0)).objs.size) (o:=Known _ (seqObj "list" #[] 0)) (h':=((s.heap.update a (Obj.mapSeq fun _=>(#[]:Array Value))).push (seqObj "tuple" vs.toArray 0)).push (seqObj "list" #[] 0))
  (fun b u q=>Heap.get?_push_of_some _ (Heap.get?_push_of_some _ q)) (by show (s.heap.update a _).objs.size≤_;rw [size_push'];exact Nat.le_succ _) (zLe (Heap.get?_push_size _ rfl))
 refine z3A I3 (by rw [zi hne.symm];exact zc) zc hne hv hlen hZ (fun i x u k H1 s1 c1 c2 c3 c4 J=>turn i x u k H1 s1 c1 c2 c3 (fun b o q nb=>?_) J) fun H1 s1 zs J j1 j2 j3 j4=>h H1 s1 zs J (fun b o q nb=>?_) j2 j3 j4
 ·have nk:=zk q hkn
  refine c4 b o ?_ nk
  rw [zi nk,zi nb]
  exact q
 ·have nk:=zk q hkn
  refine j1 b o ?_ nb nk
  rw [zi nk,zi nb]
  exact q
theorem zGy {H:Hp} {s:Shared} {lv:Value} {Q:Value→Shared→Prop} (I:Inv X pins σ H s)
  (hcol:∀R:List Value→Shared→Prop,(∀h' tk us,(∀b o,s.heap.get? b=some o→h'.get? b=some o)→Vals xs us→R us { s with heap:=h',toks:=tk })→wpAny (model X.prog X.w) A.in1 (collect lv) R E s)
  (hlen:keys.length=xs.length) (hZ:xs.length≤sizeLine) (turn:zoo X pins σ A.in1.in1 f H (fun _=>False) keys xs)
  (h:∀(H1:Hp) (s1:Shared) (D:Addr) (zs:List ((Int×Int)×V)),Inv X pins σ H1 s1→zB H H1→H D=none→H1 D=some (.lst (zs.map (·.2)))→zs.Perm (keys.zip xs)→(zs.Pairwise fun p q=>KLe p.1 q.1)→Q (.ref D) s1):
  wpAny (model X.prog X.w) A (call (.builtin "sorted") [lv] [(Str.ofString "key",.ref f)]) Q E s:=by
 refine call_function_entry_kw kind_sorted plain_sorted entry_sorted (ksk_s1 _ _) ?_
 unfold Builtin.«sorted»
 refine wpAny_bind (m:=checkCount "sorted" 1 1 _) (wpAny_pure ?_)
 refine wpAny_bind (hcol _ fun h' tk us hk hv=>?_)
 have hl2:=hv.length
 refine wpAny_bind (wpAny_newList ?_ (by omega))
 have J0:=I.kept (t':=tk) hk
 have I1:=J0.laid (t':=tk) (a:=h'.objs.size) (o:=Known _ (seqObj "list" us.toArray 0)) (h':=h'.push (seqObj "list" us.toArray 0)) (fun b u q=>Heap.get?_push_of_some _ q) (Nat.le_refl _) (zLe (Heap.get?_push_size _ rfl))
 have hn:H h'.objs.size=none:=J0.hok.fresh (Nat.le_refl _)
 refine wpAny_bind (wpAny_holding (wpAny_call_entry_kw slot_list_sort ⟨_,Heap.get?_push_size _ rfl,rfl⟩ entry_list_sort ?body (ksk_l1 _ _)))
 case body=>
  show wpAny (model X.prog X.w) A.in1.in1 (Builtin.«list.sort» ⟨[.ref h'.objs.size],[(Str.ofString "key",.ref f)]⟩) _ _ _
  rw [ksk_t1]
  refine zZA (n:=0) I1 zc hv hlen (by omega) (fun i x u k H1 s1 c1 c2 c3 c4 J=>turn i x u k H1 s1 c1 c2 c3 (fun b o q _=>c4 b o (by rw [zi (zk q hn)];exact q) (zk q hn)) J) fun H1 s1 zs J j1 j2 j3 j4=>⟨_,rfl,?_⟩
  exact wpAny_pure ⟨_,rfl,h H1 s1 _ zs J (fun b o q=>j1 b o (by rw [zi (zk q hn)];exact q) (zk q hn)) hn j2 j3 j4⟩
end
end L2
namespace L2
open PySem PySem.Spec PyProof.Rows
open PySem.W (CodeHd tabObj kla_obj kla_fn envX kla_eval kla_makeFunction kla_makeFunctionHit kla_callFunE kla_codeExpr)
section
variable {X:Cx} {pins:List (Addr×Obj)} {σ:List (Option V)} {H:Hp} {s:Shared}
theorem Inv.grown {T:Addr} {ps more:Array Value} {h':Heap} {t':Nat} {H':Hp} (I:Inv X pins σ H s) (hP:H T=some (.tbl ps)) (hP':H' T=some (.tbl (ps++more))) (old:∀b o,H b=some o→b≠T→H' b=some o)
  (new:∀b,H b=none→b < s.heap.objs.size→H' b=none) (ok:∀b o,H' b=some o→H b=none→zzb X.prog X.w H' h' b o)
  (k:∀b o,b≠T→s.heap.get? b=some o→h'.get? b=some o) (hT:h'.get? T=some { cls:=.none,data:=.fields (ps++more) }):Inv X pins σ H' { s with heap:=h',toks:=t' }:=by
 have ne:∀b,H b=none→b≠T:=fun b n z=>by rw [z,hP] at n;cases n
 refine I.un ⟨fun b o e n _ _=>k b o (ne b n) e,fun b o e n _ _=>⟨o.slots,k b o (ne b n) e⟩,fun b o e n _=>new b n (Heap.lt_size e),fun b o e _=>?_,fun b xs q=>?_,fun b o u q=>?_,fun b qs q=>?_⟩ fun b u q=>?_
 ·by_cases hb:b=T
  ·rw [hb]
   exact ⟨_,hT⟩
  ·exact ⟨o,k b o hb e⟩
 ·exact old b _ q (zZb q hP (by intro z;cases z))
 ·exact old b _ q (zZb q hP (by intro z;cases z))
 ·by_cases hb:b=T
  ·subst hb
   rw [hP] at q
   have q:=Option.some.inj q
   injection q with q
   subst q
   exact ⟨more,hP'⟩
  ·exact ⟨#[],by rw [old b _ q hb];simp⟩
 ·by_cases hb:b=T
  ·subst hb
   rw [hP'] at q
   cases q
   exact hT
  ·cases e:H b with
   |none=>exact ok b u q e
   |some o=>
    have e2:=old b o e hb
    rw [q] at e2
    cases e2
    refine (I.hok b u e).stay (fun c v hc w=>k c v ?_ w) (fun c w=>old c _ w (zZb w hP (by intro z;cases z))) fun c xs w=>old c _ w (zZb w hP (by intro z;cases z))
    rcases hc with z|z
    ·rw [z]
     exact hb
    ·exact zZb z hP (by intro w;cases w)
abbrev zIp (c:Addr) (q:Str):HO:=.ext fun h=>h.CodeRec (.ref c) q
theorem zzz {P:Program} {w:World} {H:Hp} {h:Heap} {c:Addr} {q:Str} (e:h.CodeRec (.ref c) q):zzb P w H h c (zIp c q):=by
 obtain ⟨c',o,vs,t,e1,e2,e3,e4⟩:=id e
 cases e1
 refine ⟨e,⟨o,e2⟩,fun h1 h2 p k=>?_⟩
 obtain ⟨c'',o',vs',t',f1,f2,f3,f4⟩:=p
 cases f1
 exact ⟨c,o',vs',t',rfl,k _ f2,f3,f4⟩
def zvc (H:Hp) (T:Addr) (pos:Pos) (q:Str):Prop:=H T=some (.tbl #[])∨∃c,H T=some (.tbl #[rawInt pos.line,rawInt pos.col,.ref c])∧H c=some (zIp c q)
theorem zvc.same {H H':Hp} {T:Addr} {pos:Pos} {q:Str} (t:zvc H T pos q) (k:zB H H'):zvc H' T pos q:=by
 rcases t with t|⟨c,t,u⟩
 ·exact .inl (k _ _ t)
 ·exact .inr ⟨c,k _ _ t,k _ _ u⟩
def zIw (X:Cx):Prop:=∃bm ob,X.mg "__builtins__"=some (.ref bm)∧bm≠builtinsNs∧X.base.get? bm=some ob∧ob.cls=.type "module"∧ob.dict=some builtinsNs∧ob.data=.plain
theorem zVy {params:Arguments} {body:Expr} {scope:Scope} {lpos:Pos} {c T:Addr} {clos:List (Str×Addr)} {E:Value→Shared→Prop} {Q:Value→Shared→Prop} (I:Inv X pins σ H s) (hcode:X.env.code=.ref c) (hc:CodeHd X.base c T)
  (hb:zIw X) (hdef:defaultsOf params X.env=([],[])) (hcl:closureFor scope X.env=pure clos) (ht:zvc H T lpos (X.env.qual++"<lambda>"))
  (h:∀(H1:Hp) (s1:Shared) (f c':Addr) (pm ctv:Value),Inv X pins σ H1 s1→(∀b o,H b=some o→b≠T→H1 b=some o)→zvc H1 T lpos (X.env.qual++"<lambda>")→H f=none→
   H1 f=some (Known f (kla_obj "<lambda>" (X.env.qual++"<lambda>") params body scope clos pm c' ctv))→H1 c'=some (zIp c' (X.env.qual++"<lambda>"))→(∀b o,s.heap.get? b=some o→b≠T→s1.heap.get? b=some o)→Q (.ref f) s1):
  wpAny (model X.prog X.w) X.A (eval (.Lambda params body scope lpos) X.env) Q E s:=by
 obtain ⟨bm,ob,b1,b2,b3,b4,b5,b6⟩:=hb
 have bmo:=I.bk _ _ b3
 have hgl:=I.mod.glob.keeps I.bk
 refine kla_eval hdef ?_
 have fin:∀{ps:Array Value},H T=some (.tbl ps)→mainGlobals≠T∧s.heap.BuiltinsAt X.mg T:=fun {ps} hT=>by
  have hTo:s.heap.get? T=some (tabObj ps):=I.hok T _ hT
  refine ⟨fun q=>?_,bm,ob,b1,b2,fun q=>?_,fun q=>?_,bmo,b4,b5,b6⟩
  ·obtain ⟨o,es,ep,e,hd,_⟩:=hgl
   rw [q,hTo] at e
   cases e
   cases hd
  ·obtain ⟨o,es,ep,e,hd,_⟩:=hgl
   rw [q,e] at bmo
   cases bmo
   rw [hd] at b6
   cases b6
  ·rw [q,hTo] at bmo
   cases bmo
   cases b4
 rcases ht with hT|⟨c',hT,hc'⟩
 ·obtain ⟨f1,f2⟩:=fin hT
  have hTo:s.heap.get? T=some (tabObj #[]):=I.hok T _ hT
  refine kla_makeFunction (mg:=X.mg) hcl I.ok.glob hgl hcode (hc.keeps I.bk) hTo trivial rfl f1 f2 fun c' ctv h' tk hx hge hlt hrec htb=>?_
  have kf:∀b o,b≠T→s.heap.get? b=some o→(h'.push (kla_obj "<lambda>" (X.env.qual++"<lambda>") params body scope clos ((X.mg "__name__").getD .none) c' ctv)).get? b=some o:=fun b o nb e=>Heap.get?_push_of_some _ (hx b o nb e)
  have hcn:H c'=none:=I.hok.fresh hge
  have hfn:H h'.objs.size=none:=I.hok.fresh (Nat.le_trans hge (Nat.le_of_lt hlt))
  have nTc:T≠c':=zk hT hcn
  have nTf:T≠h'.objs.size:=zk hT hfn
  have ncf:c'≠h'.objs.size:=Nat.ne_of_lt hlt
  have J:=I.grown (t':=tk) (h':=h'.push (kla_obj "<lambda>" (X.env.qual++"<lambda>") params body scope clos ((X.mg "__name__").getD .none) c' ctv))
   (H':=upd (upd (upd H T (.tbl (#[]++#[rawInt lpos.line,rawInt lpos.col,.ref c']))) c' (zIp c' (X.env.qual++"<lambda>"))) h'.objs.size (Known h'.objs.size (kla_obj "<lambda>" (X.env.qual++"<lambda>") params body scope clos ((X.mg "__name__").getD .none) c' ctv)))
   hT (by rw [zi nTf,zi nTc,zc]) (fun b o e nb=>by rw [zi (zk e hfn),zi (zk e hcn),zi nb];exact e)
   (fun b n lt=>by
    rw [zi (Nat.ne_of_lt (Nat.lt_of_lt_of_le lt (Nat.le_trans hge (Nat.le_of_lt hlt)))),zi (Nat.ne_of_lt (Nat.lt_of_lt_of_le lt hge)),zi (fun z=>by rw [z,hT] at n;cases n)]
    exact n)
   (fun b o e n=>by
    by_cases h1:b=h'.objs.size
    ·subst h1
     rw [zc] at e
     cases e
     exact zLe (Heap.get?_push_size _ rfl)
    ·rw [zi h1] at e
     by_cases h2:b=c'
     ·subst h2
      rw [zc] at e
      cases e
      exact zzz (hrec.push _)
     ·rw [zi h2] at e
      by_cases h3:b=T
      ·rw [h3,hT] at n
       cases n
      ·rw [zi h3,n] at e
       cases e) kf (Heap.get?_push_of_some _ htb)
  refine h _ _ h'.objs.size c' _ ctv J (fun b o e nb=>?_) (.inr ⟨c',?_,?_⟩) hfn zc ?_ fun b o e nb=>kf b o nb e
  ·rw [zi (zk e hfn),zi (zk e hcn),zi nb]
   exact e
  ·rw [zi nTf,zi nTc,zc]
   simp
  ·rw [zi ncf,zc]
  ·rw [zi ncf,zc]
 ·obtain ⟨f1,f2⟩:=fin hT
  have hTo:s.heap.get? T=some (tabObj #[rawInt lpos.line,rawInt lpos.col,.ref c']):=I.hok T _ hT
  refine kla_makeFunctionHit (mg:=X.mg) (cv:=.ref c') hcl I.ok.glob hgl hcode (hc.keeps I.bk) hTo (by simp [TriplesOk,rawInt]) (by simp [codeAmong,rawInt]) f2 fun ctv h' tk hk hsz=>?_
  have hfn:H h'.objs.size=none:=I.hok.fresh hsz
  have J0:=I.kept (t':=tk) hk
  have J:=J0.laid (t':=tk) (a:=h'.objs.size) (o:=Known h'.objs.size (kla_obj "<lambda>" (X.env.qual++"<lambda>") params body scope clos ((X.mg "__name__").getD .none) c' ctv))
   (h':=h'.push (kla_obj "<lambda>" (X.env.qual++"<lambda>") params body scope clos ((X.mg "__name__").getD .none) c' ctv)) (fun b u q=>Heap.get?_push_of_some _ q) (Nat.le_refl _) (zLe (Heap.get?_push_size _ rfl))
  refine h _ _ h'.objs.size c' _ ctv J (fun b o e nb=>?_) (.inr ⟨c',?_,?_⟩) hfn zc ?_ fun b o e _=>Heap.get?_push_of_some _ (hk b o e)
  ·rw [zi (zk e hfn)]
   exact e
  ·rw [zi (zk hT hfn)]
   exact hT
  ·rw [zi (zk hc' hfn)]
   exact hc'
  ·rw [zi (zk hc' hfn)]
   exact hc'
def zqn (X:Cx) (A:Around) (H:Hp) (s:Shared) (q:Str) (scope:Scope) (f:Addr) (cd:Value) (clos:List (Str×Addr)) (N:List Str):Cx where
 prog:=X.prog
 w:=X.w
 K:=X.K
 mg:=X.mg
 base:=X.base
 A:=A.deeper (envX q scope s.heap.objs.size f cd clos)
 N:=N
 s_0:=s
 H_0:=H
 env:=envX q scope s.heap.objs.size f cd clos
 outer:=X.stack
 stack:=envX q scope s.heap.objs.size f cd clos::X.stack
 ex:=[]
 calm:=true
 fn:=fun _=>false
 pn:=[]
 xe:=fun _ _=>False
theorem zPz {f c':Addr} {q:Str} {params:Arguments} {body:Expr} {scope:Scope} {clos:List (Str×Addr)} {pm ctv:Value} {px:Str} {fr:List Str} {σf:St} {te:TE} {x:V} {u:Value} {A:Around} {Q:VK}
  (I:Inv X pins σ H s) (hA:A.frames=some X.stack) (hd:A.handled=none) (hroom:A.depth < recursionLimit) (hf:H f=some (Known f (kla_obj "<lambda>" q params body scope clos pm c' ctv))) (hc:H c'=some (zIp c' q))
  (hco:scope.isCoroutine=false) (hgen:scope.isGenerator=false) (hk:scope.kind=.function) (hcell:∀y∈scope.names,y.2≠.cell) (hpx:scope.names.lookup px=some .local)
  (hbind:∀v,bindArgs (kla_fn "<lambda>" q params body scope clos pm (.ref c') ctv) ⟨[v],[]⟩=pure [(px,v)])
  (hfr:∀(i:Nat) y v,fr[i]?=some y→σf[i]?=some (some v)→scope.names.lookup y=some .free∧∃w,RelV v w∧∃c,clos.lookup y=some c∧s.heap.IsCell c (some w)) (hlen:σf.length=fr.length)
  (hclos:∀y c,clos.lookup y=some c→X.env.cells.lookup y=some c) (hfree:∀y,scope.names.lookup y=some .free→∃c,clos.lookup y=some c)
  (hb:PE (zqn X A H s q scope f (.ref c') clos (px::fr)) body te) (r:RelV x u) (hq:te (some x::σf) H Q):wpAny (model X.prog X.w) A (call (.ref f) [u]) (EP X pins σ Q) (fun _ _=>False) s:=by
 have e0:=I.env0
 have ho:=I.known hf
 have hcd:s.heap.CodeRec (.ref c') q:=(I.hok c' _ hc).1
 refine wpAny_call (codeAny_mono (R:=fun r s'=>match r with
  |.ok (.ret v)=>CE X.stack X.prog X.w H s Q v s'
  |_=>False) ?_ fun r s' hr=>?_)
 ·refine kla_callFunE hroom ho rfl hco hgen rfl hcd ?_
  rw [hbind]
  refine wpAny_pure (wpAny_newFunctionEnv hcell (fun y hy=>?_) (fun h₁ hns hsb=>⟨?_,?_⟩) hk)
  ·rw [List.mem_singleton.mp hy]
   exact hpx
  ·exact (I.nolimit).fresh _ hsb
  ·have hk₁:∀b o,s.heap.get? b=some o→h₁.get? b=some o:=fun b o e=>hsb.extBut b o (Nat.ne_of_lt (Heap.lt_size e)) (Heap.get?_push_of_some _ e)
   show codeAny _ _ (.expr body (envX q scope s.heap.objs.size f (.ref c') clos)) _ _
   have noA:∀b:Addr,b∉(zqn X A H s q scope f (.ref c') clos (px::fr)).ex:=fun b z=>absurd (show b∈([]:List Addr) from z) (by simp)
   have J:Inv (zqn X A H s q scope f (.ref c') clos (px::fr)) [] (some x::σf) H { s with heap:=h₁,toks:=s.toks + [(px,u)].length }:=by
    refine ⟨⟨e0.mod,hk,rfl,rfl,Nat.le_refl _,fun y z c h1 h2=>I.ok.inj y z c (hclos _ _ h1) (hclos _ _ h2),fun y hy=>?_,fun y c z _=>Bool.noConfusion z,fun _=>hd,Around.frames_deeper hA,.inr ⟨rfl,rfl⟩,fun b z=>absurd z (noA b),e0.bs,e0.bsz,fun b _ _=>noA b,fun b z=>absurd z (noA b),e0.funs,e0.frf⟩,
     rfl,I.bare,Un.kept hk₁,⟨_,hns,fun i y v h1 h2 h3=>?_⟩,fun y c h=>?_,I.hok.fresh (Nat.le_refl _),fun y c h=>I.freeC y c (hclos _ _ h),fun p hp=>absurd (show p∈([]:List (Addr×Obj)) from hp) (by simp),I.hok.kept hk₁,?_⟩
    ·have hy:scope.names.lookup y=some .cell∨scope.names.lookup y=some .free:=hy
     rcases hy with hy|hy
     ·exact absurd rfl (hcell _ (PySem.mem_of_lookup hy))
     ·exact hfree y hy
    ·cases i with
     |zero=>
      have h1:some px=some y:=h1
      cases h1
      have h2:some (some x)=some (some v):=h2
      cases h2
      refine ⟨u,r,.inl ⟨hpx,?_⟩⟩
      show ([(px,u)].reverse.lookup px)=some u
      simp
     |succ i=>
      obtain ⟨g1,w,g2,c,g3,g4⟩:=hfr i y v h1 h2
      exact ⟨w,g2,.inr ⟨.inr g1,c,g3,g4.keeps hk₁⟩⟩
    ·obtain ⟨v,z⟩:=I.cell y c (hclos _ _ h)
     exact ⟨v,z.keeps hk₁⟩
    ·show (some x::σf).length=(px::fr).length
     rw [List.length_cons,List.length_cons,hlen]
   refine kla_codeExpr (wpAny_mono (hb [] _ _ H Q J hq) (fun v s' hv=>?_) fun _ _ z=>z.elim)
   obtain ⟨v',H',J',rv,q'⟩:=hv
   exact ⟨v',H',J'.os,J'.bare,J'.base,J'.hok,rv,q'⟩
 ·cases r with
  |error e=>exact hr.elim
  |ok fl=>
   cases fl with
   |ret v=>exact I.after hr
   |next=>exact hr.elim
   |brk=>exact hr.elim
   |cont=>exact hr.elim
end
end L2
namespace L2
open PySem PySem.Spec PyProof.Rows
open PySem.W (CodeHd tabObj kla_obj kla_fn envX)
section
variable {X:Cx}
theorem Fun.okT {P:Program} {w:World} {K:PySem.W.Frag} {mg:Str→Option Value} {base:Heap} {x qual:Str} {st:Stmt} {f:Addr} {fd:FuncData} {N ps:List Str} {k:Nat} {sp:Sp} (F:Fun K x qual st f fd) (S:zu N ps (zj st)) (len:∀vs H Q E,sp vs H Q E→vs.length=ps.length)
  (hbody:∀(A:Around) (outer:List Env) (s:Shared) (H:Hp) (vs:List V) (Q:VK) (E:XK),zhc k (A.deeper (envOfC qual (zj st) s.heap.objs.size f fd.code))→sp vs H Q E→
   ∃t,PSs (zKo CX0 P w K mg base N qual (zj st) f fd.code A outer s H E).nox (zEc st) t∧t { nx:=fun _ H'=>Q .non H',rt:=Q } (start N vs) H):zG P w K mg base CX0 (k + 1) f fd ps sp:=by
 obtain ⟨oc,od,kV,doc,pm,an,cdv,ct,osl,rfl,lk,hcd⟩:=F.ex
 refine z9z lk hcd S len fun A outer s H vs Q E hr hsp=>?_
 obtain ⟨t,h,q⟩:=hbody A outer s H vs Q E hr hsp
 exact ⟨t,h.nox,q⟩
theorem zQy:OpR X (binaryOp .FloorDiv) (rI (fun _ j=>0 < j∧j < 2 ^ 200) fun i j=>.int (i / j)):=opI fun i j _ _ _ _ _ hc q=>by
 obtain ⟨h1,h2⟩:=hc
 refine floordiv_int (by omega) (by rw [Int.fdiv_eq_ediv_of_nonneg i (Int.le_of_lt h1)];exact q) (.inl (PyProof.noPylong_of_log2 ?_))
 have h3:j.natAbs < 2 ^ 200:=by omega
 have h4:j.natAbs≠0:=by omega
 have:=(Nat.log2_lt h4).mpr h3
 omega
def zgD (K:PySem.W.Frag):V→V→Hp→VK→Prop:=fun o i H Q=>∃(p:Addr) (xs:List V) (k:Nat) (v:V),o=.ref p∧i=.int k∧SqL K H p xs∧xs[k]?=some v∧Q v H
theorem zwo:zwB X (zgD X.K):=by
 intro pins s σ H o i ov iv Q I ro ri h
 obtain ⟨p,xs,k,v,rfl,rfl,hq,he,q⟩:=h
 cases ro
 obtain ⟨t,rfl⟩:=ri
 obtain ⟨its,r,pl,hz⟩:=I.list hq
 obtain ⟨w,ew,rw'⟩:=r.get he
 have hlt:k < xs.length:=(List.getElem?_eq_some_iff.mp he).1
 have h63:=zXh
 exact wpAny_getItem_list pl.isList (by omega) (by omega) (by rw [Int.toNat_natCast];simpa using ew) ⟨v,H,I,rw',q⟩
theorem zwy:zag X (.builtin "len") (fun xs H Q=>∃a kvs,xs=[V.ref a]∧H a=some (.dT kvs)∧Q (.int kvs.length) H):=by
 intro pins s σ H xs us Q I r h
 obtain ⟨a,kvs,rfl,ha,q⟩:=h
 obtain ⟨u,rfl,ru⟩:=vals1 r
 cases ru
 obtain ⟨z,hd,ys,rel,dd⟩:=z2z I.hok ha
 obtain ⟨o,es,ep,ho,hx,hdt,he,_,_⟩:=id dd
 have hsz:es.size=kvs.length:=by rw [size_of_entries he,←Paired.length rel]
 have h63:=zXh
 have hT:s.TypeIs (.ref a) "dict":=dd.typeIs
 refine Calls.call_function_entry kind_len plain_len entry_len (args_len1 _) ?_
 unfold Builtin.«len»
 refine wpAny_bind (m:=oneArg "len" _) (wpAny_pure ?_)
 refine wpAny_bind (m:=callSpecial? (.ref a) (Str.ofString "__len__")) (wpAny_callSpecial?_slot (name:=Str.ofString "__len__") hT F.slot_dict_len (wpAny_call_entry F.slot_dict_len hT F.entry_dict_len ?_ (F.args_dict_len_1 _)))
 show wpAny _ _ (dictSize a >>= _) _ _ s
 unfold dictSize
 refine wpAny_bind (wpAny_bind (wpAny_dictEntries ho hdt (wpAny_pure ?_)))
 show wpAny _ _ (Builtin.Dict.pendingCount a >>= _) _ _ s
 refine wpAny_bind (wpAny_pendingCount_other hd ?_)
 show wpAny _ _ (mkInt _ >>= _) _ _ s
 refine wpAny_bind (wpAny_mkInt (wpAny_pure ⟨_,rfl,?_⟩))
 rw [Nat.add_zero,hsz]
 refine wpAny_bind (wpAny_holding (wpAny_pure ?_))
 refine wpAny_bind (wpAny_letGo ?_)
 show wpAny _ _ (if ((kvs.length:Nat):Int) < 0 then _ else _) _ _ _
 rw [if_neg (by omega)]
 show wpAny _ _ (if ((kvs.length:Nat):Int) ≥ 2 ^ 63 then _ else _) _ _ _
 rw [if_neg (by omega)]
 exact wpAny_bind (wpAny_mkInt (wpAny_pure ⟨_,rfl,⟨.int kvs.length,H,(I.tok _).tok _,⟨_,rfl⟩,q⟩⟩))
theorem zPA {K:PySem.W.Frag} {a:Addr} {xs:List V} {g:TG} {tb:TS} {D:Ends} {σ:St} {H:Hp} (Pv:Nat→St→Hp→Prop) (h0:Pv 0 σ H) (hl:∀i σ H,i≤xs.length→Pv i σ H→SqL K H a xs)
  (hs:∀i x σ H,xs.reverse[i]?=some x→Pv i σ H→g x σ H fun σ2 H2=>tb { D with nx:=Pv (i + 1),ct:=Pv (i + 1),bk:=D.nx } σ2 H2) (hd:∀σ H,Pv xs.length σ H→D.nx σ H):
  ∃W:Nat→Nat→St→Hp→Prop,(∃m,W 0 m σ H)∧∀i m σ H,W i m σ H→
   ((Itv K a xs.length).stop i H∧D.nx σ H)∨((Itv K a xs.length).go i H∧∃N:St→Hp→Prop,(∀σ' H',N σ' H'→∃m',m' < m∧W (i + 1) m' σ' H')∧∀x H',(Itv K a xs.length).yld i H x H'→g x σ H' fun σ2 H2=>tb { D with nx:=N,ct:=N,bk:=D.nx } σ2 H2):=by
 refine ⟨fun i m σ H=>m=xs.length - i∧i≤xs.length∧Pv i σ H,⟨xs.length,by simp,Nat.zero_le _,h0⟩,?_⟩
 rintro i m σ H ⟨rfl,hi,p⟩
 have q:=hl i σ H hi p
 by_cases hlt:i < xs.length
 ·have e:xs[xs.length - 1 - i]?=some (xs[xs.length - 1 - i]'(by omega)):=List.getElem?_eq_getElem (by omega)
  refine .inr ⟨⟨hlt,xs,_,q,e⟩,Pv (i + 1),fun σ' H' p'=>⟨xs.length - (i + 1),by omega,rfl,hlt,p'⟩,fun x H' y=>?_⟩
  obtain ⟨e2,y⟩:=y
  subst e2
  exact hs i x σ _ (by rw [List.getElem?_reverse hlt];exact y xs q) p
 ·have e:i=xs.length:=by omega
  subst e
  exact .inl ⟨Nat.le_refl _,hd σ H p⟩
def slots (σ:St) (fr:List Nat):St:=fr.map fun j=>(σ[j]?).join
def zWB (K:PySem.W.Frag) (T:Addr) (pos:Pos) (q:Str) (fr:List Nat) (ta:TA) (tb:TE):TE:=fun σ H Q=>ta σ H fun vs H1=>∃(a:Addr) (xs:List V) (keys:List (Int×Int)),vs=[.ref a]∧SqL K H1 a xs∧keys.length=xs.length∧zvc H1 T pos q∧
 (∀(i:Nat) (x:V) (k:Int×Int) (H2:Hp),xs[i]?=some x→keys[i]?=some k→(∀b o,H1 b=some o→b≠T→H2 b=some o)→tb (some x::slots σ fr) H2 fun v H3=>zB H2 H3∧∃t,v=.ref t∧H3 t=some (.tup [.int k.1,.int k.2]))∧
 ∀(H2:Hp) (D:Addr) (zs:List ((Int×Int)×V)),(∀b o,H1 b=some o→b≠T→H2 b=some o)→zvc H2 T pos q→H1 D=none→H2 D=some (.lst (zs.map (·.2)))→zs.Perm (keys.zip xs)→(zs.Pairwise fun p q=>KLe p.1 q.1)→Q (.ref D) H2
structure zRs (scope:Scope) (px:Str) (fr:List Str):Prop where
 co:scope.isCoroutine=false
 gen:scope.isGenerator=false
 kind:scope.kind=.function
 cell:∀y∈scope.names,y.2≠.cell
 par:scope.names.lookup px=some .local
 free:∀y∈fr,scope.names.lookup y=some .free
 has:∀y,scope.names.lookup y=some .free→y∈fr
theorem zSs {scope:Scope} {px:Str} {fr:List Str} (h1:scope.isCoroutine=false) (h2:scope.isGenerator=false) (h3:scope.kind=.function) (h4:(scope.names.all fun y=>!decide (y.2=.cell))=true) (h5:scope.names.lookup px=some .local)
  (h6:(fr.all fun y=>decide (scope.names.lookup y=some .free))=true) (h7:(scope.names.all fun y=>!decide (y.2=.free)||decide (y.1∈fr))=true):zRs scope px fr where
 co:=h1
 gen:=h2
 kind:=h3
 cell:=fun y hy e=>by
  have:=List.all_eq_true.mp h4 y hy
  rw [decide_eq_true e] at this
  cases this
 par:=h5
 free:=fun y hy=>of_decide_eq_true (List.all_eq_true.mp h6 y hy)
 has:=fun y hy=>by
  have:=List.all_eq_true.mp h7 _ (PySem.mem_of_lookup hy)
  rw [decide_eq_true (show ((y,NameKind.free):Str×NameKind).2=.free from rfl)] at this
  exact of_decide_eq_true (by simpa using this)
theorem boot_sorted:bootBuiltins "sorted"=some (.builtin "sorted"):=by decide +kernel
theorem z9n {H H1 H2:Hp} {T:Addr} (a:∀b o,H b=some o→b≠T→H1 b=some o) (b:zB H1 H2):∀c o,H c=some o→c≠T→H2 c=some o:=fun c o e n=>b c o (a c o e n)
theorem zkC {K:PySem.W.Frag} {H H2:Hp} {T a:Addr} {xs:List V} {pos:Pos} {q:Str} (h:SqL K H a xs) (k:∀b o,H b=some o→b≠T→H2 b=some o) (t:zvc H T pos q):SqL K H2 a xs:=by
 obtain ⟨ps,hT⟩:∃ps,H T=some (.tbl ps):=by
  rcases t with t|⟨_,t,_⟩
  ·exact ⟨_,t⟩
  ·exact ⟨_,t⟩
 rcases h with (h|⟨o,h⟩)|h
 ·exact .inl (.inl (k _ _ h (zZb h hT (by intro z;cases z))))
 ·exact .inl (.inr ⟨o,k _ _ h (zZb h hT (by intro z;cases z))⟩)
 ·exact .inr h
theorem zNr {k:Nat} {c T:Addr} {px:Str} {fr:List Str} {frn:List Nat} {params:Arguments} {body:Expr} {scope:Scope} {lpos:Pos} {clos:List (Str×Addr)} {tb:TE} {pins:List (Addr×Obj)} {σ:St} {H:Hp} {s:Shared} {Q:VK} {lv:Value} {xs:List V} {keys:List (Int×Int)}
  (hr:zhc (k + 1) X.A) (hcode:X.env.code=.ref c) (hc:CodeHd X.base c T) (hb:zIw X) (L:zRs scope px fr) (hdef:defaultsOf params X.env=([],[])) (hcl:closureFor scope X.env=pure clos)
  (hbind:∀pm c' ctv v,bindArgs (kla_fn "<lambda>" (X.env.qual++"<lambda>") params body scope clos pm (.ref c') ctv) ⟨[v],[]⟩=pure [(px,v)])
  (hclos:∀y c,clos.lookup y=some c→X.env.cells.lookup y=some c) (hcl2:∀y∈fr,∃c,clos.lookup y=some c) (hlen:frn.length=fr.length)
  (hfr:∀(i:Nat) (y:Str) (j:Nat),fr[i]?=some y→frn[i]?=some j→X.N[j]?=some y∧X.env.scope.names.lookup y=some .cell)
  (hbody:∀(A:Around) (H:Hp) (s:Shared) (f c':Addr),PE (zqn X A H s (X.env.qual++"<lambda>") scope f (.ref c') clos (px::fr)) body tb)
  (I:Inv X pins σ H s) (hcol:∀(s1:Shared),(∀b o,s.heap.get? b=some o→b≠T→s1.heap.get? b=some o)→∀(H1:Hp),Inv X pins σ H1 s1→(∀b o,H b=some o→b≠T→H1 b=some o)→∀R:List Value→Shared→Prop,
   (∀h' tk us,(∀b o,s1.heap.get? b=some o→h'.get? b=some o)→Vals xs us→R us { s1 with heap:=h',toks:=tk })→wpAny (model X.prog X.w) X.A.in1 (collect lv) R X.xe s1)
  (hxl:xs.length≤sizeLine) (hkl:keys.length=xs.length) (ht:zvc H T lpos (X.env.qual++"<lambda>"))
  (turn:∀(i:Nat) (x:V) (k:Int×Int) (H2:Hp),xs[i]?=some x→keys[i]?=some k→(∀b o,H b=some o→b≠T→H2 b=some o)→tb (some x::slots σ frn) H2 fun v H3=>zB H2 H3∧∃t,v=.ref t∧H3 t=some (.tup [.int k.1,.int k.2]))
  (h:∀(H2:Hp) (D:Addr) (zs:List ((Int×Int)×V)),(∀b o,H b=some o→b≠T→H2 b=some o)→zvc H2 T lpos (X.env.qual++"<lambda>")→H D=none→H2 D=some (.lst (zs.map (·.2)))→zs.Perm (keys.zip xs)→(zs.Pairwise fun p q=>KLe p.1 q.1)→Q (.ref D) H2):
  wpAny (model X.prog X.w) X.A (eval (.Lambda params body scope lpos) X.env) (fun fv s1=>wpAny (model X.prog X.w) X.A (call (.builtin "sorted") [lv] [(Str.ofString "key",fv)]) (EP X pins σ Q) X.xe s1) X.xe s:=by
 refine zVy I hcode hc hb hdef hcl ht fun H1 s1 f c' pm ctv I1 k1 t1 hfn hf1 hc1 kh=>?_
 refine zGy (H:=H1) (xs:=xs) (keys:=keys) I1 (fun R hR=>hcol s1 kh H1 I1 k1 R hR) hkl hxl (fun i x u kk H2 s2 e1 ru e2 k2 I2=>?_) fun H2 s2 D zs I2 sm hD hD2 hp hs=>?_
 ·have k2':zB H1 H2:=fun b o e=>k2 b o e id
  refine zPz (q:=X.env.qual++"<lambda>") (params:=params) (clos:=clos) (pm:=pm) (ctv:=ctv) (px:=px) (fr:=fr) (σf:=slots σ frn) I2 I2.ok.frames ?_ ?_ (k2' _ _ hf1) (k2' _ _ hc1) L.co L.gen L.kind L.cell L.par (hbind pm c' ctv) ?_ (by unfold slots;rw [List.length_map,hlen]) hclos (fun y hy=>hcl2 y (L.has y hy)) (hbody _ _ _ _ _) ru (turn i x kk H2 e1 e2 (z9n k1 k2'))
  ·exact hr.hd
  ·have:=hr.dp
   show X.A.depth < _
   omega
  ·intro j y v ey ev
   unfold slots at ev
   rw [List.getElem?_map] at ev
   obtain ⟨n,en⟩:∃n,frn[j]?=some n:=by
    have:=(List.getElem?_eq_some_iff.mp ey).1
    exact ⟨_,List.getElem?_eq_getElem (by omega)⟩
   rw [en] at ev
   have ev:(σ[n]?).join=some v:=Option.some.inj ev
   obtain ⟨w1,w2⟩:=hfr j y n ey en
   have ev2:σ[n]?=some (some v):=by
    cases z:σ[n]? with
    |none=>
     rw [z] at ev
     cases ev
    |some o=>
     rw [z] at ev
     have ev:o=some v:=ev
     rw [ev]
   obtain ⟨m,hn,hl⟩:=I2.loc
   obtain ⟨u',ru',lk⟩:=hl n y v w1 ev2 (.inr (.inl w2))
   refine ⟨L.free y (List.mem_of_getElem? ey),u',ru',?_⟩
   rcases lk with ⟨z,_⟩|⟨_,cc,z1,z2⟩
   ·have z:X.env.scope.names.lookup y=some .local:=z
    rw [w2] at z
    cases z
   ·obtain ⟨c2,z3⟩:=hcl2 y (List.mem_of_getElem? ey)
    have z4:=hclos y c2 z3
    rw [z1] at z4
    cases z4
    exact ⟨cc,z3,z2⟩
 ·exact ⟨.ref D,H2,I2,rfl,h H2 D zs (z9n k1 sm) (t1.same sm) (by
   cases e:H D with
   |none=>rfl
   |some o=>
    by_cases hDT:D=T
    ·rcases t1 with t1|⟨_,t1,_⟩
     ·rw [hDT,t1] at hD
      cases hD
     ·rw [hDT,t1] at hD
      cases hD
    ·rw [k1 D o e hDT] at hD
     cases hD) hD2 hp hs⟩
theorem ziw {k:Nat} {c T:Addr} {px:Str} {fr:List Str} {frn:List Nat} {e:Expr} {params:Arguments} {body:Expr} {scope:Scope} {lpos kpos p pos:Pos} {clos:List (Str×Addr)} {ta:TA} {tb:TE} (hr:zhc (k + 1) X.A) (hg:Gl X "sorted") (hm:X.mg "sorted"=none)
  (hcode:X.env.code=.ref c) (hc:CodeHd X.base c T) (hb:zIw X) (L:zRs scope px fr) (hdef:defaultsOf params X.env=([],[])) (hcl:closureFor scope X.env=pure clos)
  (hbind:∀pm c' ctv v,bindArgs (kla_fn "<lambda>" (X.env.qual++"<lambda>") params body scope clos pm (.ref c') ctv) ⟨[v],[]⟩=pure [(px,v)])
  (hclos:∀y c,clos.lookup y=some c→X.env.cells.lookup y=some c) (hcl2:∀y∈fr,∃c,clos.lookup y=some c) (hlen:frn.length=fr.length)
  (hfr:∀(i:Nat) (y:Str) (j:Nat),fr[i]?=some y→frn[i]?=some j→X.N[j]?=some y∧X.env.scope.names.lookup y=some .cell)
  (ha:PA X [e] ta) (hbody:∀(A:Around) (H:Hp) (s:Shared) (f c':Addr),PE (zqn X A H s (X.env.qual++"<lambda>") scope f (.ref c') clos (px::fr)) body tb)
  (hs:starEach [e] X.env=[(false,eval e X.env)]:=by rfl):
  PE X (.Call (.Name "sorted" p) [e] [⟨some "key",.Lambda params body scope lpos,kpos⟩] pos) (zWB X.K T lpos (X.env.qual++"<lambda>") frn ta tb):=by
 intro pins s σ H Q I h
 refine wpAny_Call_Name_kw (zRg I hg hm boot_sorted ?_)
 refine callWith_kw (thn (ha pos pins s σ H _ I h) fun us s1 ⟨vs,H1,I1,rl,a,xs,keys,ex,hq,hkl,ht,turn,fin⟩=>?_) (by rw [hs];rfl) (by rw [hs];rfl)
 subst ex
 obtain ⟨u,rfl,ru⟩:=vals1 rl
 cases ru
 obtain ⟨its,rv,pl,hz⟩:=I1.list hq
 refine kws_cons (thn (zNr (k:=k) hr hcode hc hb L hdef hcl hbind hclos hcl2 hlen hfr hbody I1 (lv:=.ref a) (xs:=xs) (keys:=keys) ?_ hz hkl ht turn fin) fun fv s2 q=>kws_nil q)
 intro s2 kh H2 I2 k2 R hR
 obtain ⟨its2,rv2,pl2,hz2⟩:=I2.list (zkC hq k2 ht)
 refine collect_list pl2.isList (hR _ s2.toks its2 (fun b o q=>?_) rv2) (by rw [←rv2.length];exact hz2)
 have hlt:b < s2.heap.objs.size:=Heap.lt_size q
 rw [Heap.get?_update_ne _ _ _ _ (Nat.ne_of_lt hlt)]
 exact Heap.get?_push_of_some _ q
end
end L2
namespace Pv
open PySem PySem.Spec PyProof.Rows L2
def st0 (st:Ste):Int:=(Vbemak.stNumbers st).getD 0 0
def st1 (st:Ste):Int:=(Vbemak.stNumbers st).getD 1 0
def st2 (st:Ste):Int:=(Vbemak.stNumbers st).getD 2 0
theorem znx (st:Ste):stV st=[.int (st0 st),.int (st1 st),.int (st2 st)]:=by cases st<;>rfl
theorem zXC (st:Ste):atI (stV st) 0=some (.int (st0 st)):=by cases st<;>rfl
theorem z5C (st:Ste):atI (stV st) 1=some (.int (st1 st)):=by cases st<;>rfl
theorem zWC (st:Ste):atI (stV st) 2=some (.int (st2 st)):=by cases st<;>rfl
theorem z7n {α:Type} (p:α→Bool) (l:List α) (x:α):(l++[x]).filter p=l.filter p++(if p x=true then [x] else []):=by
 rw [List.filter_append]
 congr 1
 by_cases h:p x=true
 ·rw [if_pos h,List.filter_cons_of_pos h]
  rfl
 ·rw [if_neg h,List.filter_cons_of_neg h]
  rfl
section
variable {P:Program} {w:World} {K:PySem.W.Frag} {mg:Str→Option Value} {base:Heap} {A:Adr}
abbrev zls (A:Adr):Sp:=zax fun n=>[.int 4,.int n,.int 0]
abbrev zBn (A:Adr):Sp:=zax fun n=>[.int 5,.int n,.int 0]
theorem zhs (T:Txt K mg A):zG P w K mg base CX0 1 A.zim A.zxm ["account"] (zls A):=by
 obtain ⟨zRr,zLf⟩:=T.zJi
 have nN:=zzl.nd
 refine T.zxd.F.ok zzl (fun vs H Q E h=>?_) (fun cdv B outer s H vs Q E hr h=>?_)
 ·obtain ⟨n,rfl,_⟩:=h
  rfl
 ·obtain ⟨n,rfl,k⟩:=h
  have hu:=zM hr
  refine ⟨_,(ze (zh (zjf (za (zp (v:=.int (4)) rfl zLf ⟨_,rfl⟩) (za (pv 0) (za zm zb)))))),?_⟩
  refine ⟨_,rfl,(by show 3≤sizeLine;decide),fun p hp=>?_⟩
  exact k p hp
theorem zCn (T:Txt K mg A):zG P w K mg base CX0 1 A.zbi A.zdi ["account"] (zBn A):=by
 obtain ⟨zTu,zgj⟩:=T.zfj
 have nN:=zth.nd
 refine T.zjc.F.ok zth (fun vs H Q E h=>?_) (fun cdv B outer s H vs Q E hr h=>?_)
 ·obtain ⟨n,rfl,_⟩:=h
  rfl
 ·obtain ⟨n,rfl,k⟩:=h
  have hu:=zM hr
  refine ⟨_,(ze (zh (zjf (za (zp (v:=.int (5)) rfl zgj ⟨_,rfl⟩) (za (pv 0) (za zm zb)))))),?_⟩
  refine ⟨_,rfl,(by show 3≤sizeLine;decide),fun p hp=>?_⟩
  exact k p hp
def zPn (A:Adr):Sp:=fun vs H Q _=>∃(a:Addr) (r:Rn),vs=[.ref a]∧zQb A.zo H a r∧Q (.int (st0 r.st)) H
theorem zKn (T:Txt K mg A):zG P w K mg base CX0 1 A.zSp A.zcq ["run"] (zPn A):=by
 have nN:=z2n.nd
 refine T.zed.F.ok z2n (fun vs H Q E h=>?_) (fun cdv B outer s H vs Q E hr h=>?_)
 ·obtain ⟨a,r,rfl,_⟩:=h
  rfl
 ·obtain ⟨a,r,rfl,⟨da,ta,ha,hta⟩,k⟩:=h
  have hu:=zM hr
  refine ⟨_,(ze (zh (zS z7j (zf (pv 0) rfl) zm (fun _ _=>rfl)))),?_⟩
  exact ⟨_,rfl,a,A.zo,da,_,_,rfl,ha,T.zJ,T.zvb,zFc _ _ _ _ _,ta,_,0,_,rfl,rfl,SqT.of hta,zXC _,k⟩
def zKl (A:Adr):Sp:=fun vs H Q _=>∃(a:Addr) (r:Rn),vs=[.ref a]∧zQb A.zo H a r∧Q (.int (st1 r.st)) H
theorem z7g (T:Txt K mg A):zG P w K mg base CX0 1 A.zAm A.z3l ["run"] (zKl A):=by
 have nN:=zbl.nd
 refine T.zcc.F.ok zbl (fun vs H Q E h=>?_) (fun cdv B outer s H vs Q E hr h=>?_)
 ·obtain ⟨a,r,rfl,_⟩:=h
  rfl
 ·obtain ⟨a,r,rfl,⟨da,ta,ha,hta⟩,k⟩:=h
  have hu:=zM hr
  refine ⟨_,(ze (zh (zS z7j (zf (pv 0) rfl) zm (fun _ _=>rfl)))),?_⟩
  exact ⟨_,rfl,a,A.zo,da,_,_,rfl,ha,T.zJ,T.zvb,zFc _ _ _ _ _,ta,_,1,_,rfl,rfl,SqT.of hta,z5C _,k⟩
def zRt (C:Addr) (p:Int→Rn→Bool):Sp:=fun vs H Q _=>∃(l:Addr) (rs:List Rn) (z:Int),vs=[.ref l,.int z]∧zU C H l rs∧rs.length≤10000∧∀(H':Hp) (q:Addr),zU C H' q (rs.filter (p z))→H q=Option.none→zB H H'→Q (.ref q) H'
abbrev z5h (A:Adr):Sp:=zRt A.zo fun z r=>decide (V.int (st0 r.st)=V.int z)
abbrev zbp (A:Adr):Sp:=fun vs H Q _=>∃(l:Addr) (rs:List Rn) (z:Int) (h:Nat),vs=[.ref l,.int z]∧z=h∧zU A.zo H l rs∧rs.length≤10000∧∀(H':Hp) (q:Addr),zU A.zo H' q (rs.filter fun r=>decide (r.st=.live h))→H q=Option.none→zB H H'→Q (.ref q) H'
theorem zRf {C:Addr} {H H4:Hp} {D a:Addr} {p:Rn→Bool} {rs:List Rn} {i:Nat} {r:Rn} (hri:rs[i]?=some r) (hD0:H D=Option.none) (s:zB H H4) (hD:zU C H4 D ((rs.take i).filter p)) (hra:zQb C H4 a r) (hp:p r=true) (hlen:rs.length≤10000):
  ∃acc,H4 D=some (.lst acc)∧acc.length < sizeLine∧zB H (upd H4 D (.lst (acc++[.ref a])))∧zU C (upd H4 D (.lst (acc++[.ref a]))) D ((rs.take (i + 1)).filter p):=by
 obtain ⟨as,h1,h2⟩:=hD
 refine ⟨_,h1,?_,fun b o e=>?_,as++[a],?_,?_⟩
 ·rw [List.length_map,zNb h2]
  exact Nat.lt_of_le_of_lt (Nat.le_trans (List.length_filter_le ..) (Nat.le_trans (zmd i rs) hlen)) (by decide)
 ·rw [zi (zk e hD0)]
  exact s _ _ e
 ·rw [zc,List.map_append]
  rfl
 ·rw [take_snoc hri,z7n,if_pos hp]
  exact Paired.snoc (z1c (fun _ _ q=>But.upd.run h1 q) h2) (But.upd.run h1 hra)
theorem zKf {C:Addr} {H4:Hp} {D:Addr} {p:Rn→Bool} {rs:List Rn} {i:Nat} {r:Rn} (hri:rs[i]?=some r) (hD:zU C H4 D ((rs.take i).filter p)) (hp:¬p r=true):zU C H4 D ((rs.take (i + 1)).filter p):=by
 rw [take_snoc hri,z7n,if_neg hp,List.append_nil]
 exact hD
theorem zsd (T:Txt K mg A):zG P w K mg base CX0 2 A.zaj A.z3i ["runs","state"] (z5h A):=by
 have zFh:=@zKn P w K mg base A T
 have nN:=z9h.nd
 refine T.zlb.F.ok z9h (fun vs H Q E h=>?_) (fun cdv B outer s H vs Q E hr h=>?_)
 ·obtain ⟨l,rs,z,rfl,_⟩:=h
  rfl
 ·obtain ⟨l,rs,z,rfl,⟨as,hl,hp⟩,hlen,k⟩:=h
  have hu:=zM hr
  refine ⟨_,(ze (zh (zxh (tt:=(z8k (tOp rEq (zEh (zPn A) [] E0 (zVd (zAb 2) zjh)) (zAb 1)))) (te:=(zAb 2)) rfl nN (zYb (pv 0)) (z9c (own:=[("run",2)]) (by rfl)) (fun _ _ _ _ _=>(zrb (i:=2) nN rfl (Or.inl rfl))) (fun _ _ _ _ _=>(zJh (zC zMb (zn zFh hr T.zed (za (pv 2) zb)) (pv 1) (zE _)))) (fun _ _ _ _ _=>(pv 2))))),?_⟩
  refine ⟨_,rfl,l,rfl,⟨_,SqL.of hl⟩,fun D hD=>zUe (K:=K) (a:=l) (xs:=as.map V.ref) (fun i H'=>zB H H'∧zU A.zo H' D ((rs.take i).filter fun r=>decide (V.int (st0 r.st)=V.int z)))
   ⟨zq hD,[],zc,.nil⟩ (fun i H' _ ⟨s1,_⟩=>SqL.of (s1 _ _ hl)) ?_ ?_⟩
  ·rintro i y H' hi ⟨s1,hD1⟩
   obtain ⟨a,ha,rfl⟩:=zCc hi
   obtain ⟨r,hri,hra⟩:=pat hp ha
   have hra:=zeb s1 hra
   refine ⟨rfl,?_⟩
   refine ⟨_,rfl,a,r,rfl,hra,_,rfl,rfl,_,rfl,?_⟩
   refine zmb (fun c=>?_) fun c=>?_
   ·refine ⟨_,rfl,?_⟩
    exact zRf hri hD s1 hD1 hra c hlen
   ·exact ⟨s1,zKf hri hD1 c⟩
  ·rintro H' ⟨s1,hD1⟩
   rw [List.length_map,zNb hp,List.take_length] at hD1
   exact k H' D hD1 hD s1
theorem zve (T:Txt K mg A):zG P w K mg base CX0 2 A.zJj A.zWj ["runs","account"] (zbp A):=by
 have zsc:=@z6d P w K mg base A T
 have nN:=zOi.nd
 refine T.zSb.F.ok zOi (fun vs H Q E h=>?_) (fun cdv B outer s H vs Q E hr h=>?_)
 ·obtain ⟨l,rs,z,h,rfl,_⟩:=h
  rfl
 ·obtain ⟨l,rs,z,h,rfl,rfl,⟨as,hl,hp⟩,hlen,k⟩:=h
  have hu:=zM hr
  refine ⟨_,(ze (zh (zxh (tt:=(z8k (tOp (zhz K) (z6h K (zAb 2) "status") (zEh (zDk A) [] E0 (zVd (zAb 1) zjh))))) (te:=(zAb 2)) rfl nN (zYb (pv 0)) (z9c (own:=[("run",2)]) (by rfl)) (fun _ _ _ _ _=>(zrb (i:=2) nN rfl (Or.inl rfl))) (fun _ _ _ _ _=>(zJh (zC (zku hr.units) (zf (pv 2) rfl) (zn zsc hr T.zoc (za (pv 1) zb)) (zE _)))) (fun _ _ _ _ _=>(pv 2))))),?_⟩
  refine ⟨_,rfl,l,rfl,⟨_,SqL.of hl⟩,fun D hD=>zUe (K:=K) (a:=l) (xs:=as.map V.ref) (fun i H'=>zB H H'∧zU A.zo H' D ((rs.take i).filter fun r=>decide (r.st=.live h)))
   ⟨zq hD,[],zc,.nil⟩ (fun i H' _ ⟨s1,_⟩=>SqL.of (s1 _ _ hl)) ?_ ?_⟩
  ·rintro i y H' hi ⟨s1,hD1⟩
   obtain ⟨a,ha,rfl⟩:=zCc hi
   obtain ⟨r,hri,hra⟩:=pat hp ha
   have hra:=zeb s1 hra
   obtain ⟨da,ta,ha1,ha2⟩:=id hra
   refine ⟨rfl,?_⟩
   refine ⟨_,rfl,a,A.zo,da,_,_,rfl,ha1,T.zJ,T.zvb,zFc _ _ _ _ _,_,rfl,_,rfl,fun u hu=>?_⟩
   have s2:zB H' (upd H' u (.tup [.int 1,.int h,.int 0])):=zq hu
   obtain ⟨d,d',g1,g2,g3,g4,g5⟩:=z8s (K:=K) (s2 _ _ ha2) (show zbf (upd H' u (.tup [.int 1,.int h,.int 0])) u (.live h) from zc)
   refine ⟨d,d',g1,g2,g3,g4,_,rfl,?_⟩
   rw [g5]
   refine zmb (fun c=>?_) fun c=>?_
   ·refine ⟨_,rfl,?_⟩
    exact zRf hri hD (s1.trans s2) (zVc s2 hD1) (zeb s2 hra) c hlen
   ·exact ⟨s1.trans s2,zKf hri (zVc s2 hD1) c⟩
  ·rintro H' ⟨s1,hD1⟩
   rw [List.length_map,zNb hp,List.take_length] at hD1
   exact k H' D hD1 hD s1
abbrev zEm (A:Adr):Sp:=zRt A.zo fun z r=>decide (V.int (st0 r.st)=V.int 2)&&decide (V.int (st1 r.st)=V.int z)
abbrev zUj (A:Adr):Sp:=zRt A.zo fun z r=>decide (V.int (st0 r.st)=V.int 3)&&decide (V.int (st2 r.st)=V.int z)
theorem z2l (T:Txt K mg A):zG P w K mg base CX0 3 A.zsh A.zmh ["runs","account"] (zEm A):=by
 have zYd:=@z7g P w K mg base A T
 have zGb:=@zsd P w K mg base A T
 obtain ⟨zur,zQg⟩:=T.zVg
 have nN:=zWg.nd
 refine T.z9b.F.ok zWg (fun vs H Q E h=>?_) (fun cdv B outer s H vs Q E hr h=>?_)
 ·obtain ⟨l,rs,z,rfl,_⟩:=h
  rfl
 ·obtain ⟨l,rs,z,rfl,hl,hlen,k⟩:=h
  have hu:=zM hr
  refine ⟨_,(ze (zh (zxh (tt:=(z8k (tOp rEq (zEh (zKl A) [] E0 (zVd (zAb 2) zjh)) (zAb 1)))) (te:=(zAb 2)) rfl nN (zYb (zn zGb hr T.zlb (za (pv 0) (za (zp (v:=.int (2)) rfl zQg ⟨_,rfl⟩) zb)))) (z9c (own:=[("run",2)]) (by rfl)) (fun _ _ _ _ _=>(zrb (i:=2) nN rfl (Or.inl rfl))) (fun _ _ _ _ _=>(zJh (zC zMb (zn zYd hr T.zcc (za (pv 2) zb)) (pv 1) (zE _)))) (fun _ _ _ _ _=>(pv 2))))),?_⟩
  refine ⟨_,rfl,l,rs,_,rfl,hl,hlen,fun H1 q hq hq0 s0=>?_⟩
  obtain ⟨as,hql,hp⟩:=hq
  have hlen2:(rs.filter fun r=>decide (V.int (st0 r.st)=V.int 2)).length≤10000:=Nat.le_trans (List.length_filter_le ..) hlen
  refine ⟨q,rfl,⟨_,SqL.of hql⟩,fun D hD=>zUe (K:=K) (a:=q) (xs:=as.map V.ref) (fun i H'=>zB H1 H'∧zU A.zo H' D (((rs.filter fun r=>decide (V.int (st0 r.st)=V.int 2)).take i).filter fun r=>decide (V.int (st1 r.st)=V.int z)))
   ⟨zq hD,[],zc,.nil⟩ (fun i H' _ ⟨s1,_⟩=>SqL.of (s1 _ _ hql)) ?_ ?_⟩
  ·rintro i y H' hi ⟨s1,hD1⟩
   obtain ⟨a,ha,rfl⟩:=zCc hi
   obtain ⟨r,hri,hra⟩:=pat hp ha
   have hra:=zeb s1 hra
   refine ⟨rfl,?_⟩
   refine ⟨_,rfl,a,r,rfl,hra,_,rfl,rfl,_,rfl,?_⟩
   refine zmb (fun c=>?_) fun c=>?_
   ·refine ⟨_,rfl,?_⟩
    exact zRf hri hD s1 hD1 hra c hlen2
   ·exact ⟨s1,zKf hri hD1 c⟩
  ·rintro H' ⟨s1,hD1⟩
   rw [List.length_map,zNb hp,List.take_length,List.filter_filter] at hD1
   refine k H' D ?_ (s0.free hD) (s0.trans s1)
   refine cast (congrArg (zU A.zo H' D) (List.filter_congr fun r _=>?_)) hD1
   rw [Bool.and_comm]
theorem zVf (T:Txt K mg A):zG P w K mg base CX0 3 A.zmg A.z4f ["runs","use"] (zUj A):=by
 have zGb:=@zsd P w K mg base A T
 obtain ⟨zQn,zkf⟩:=T.zof
 have nN:=zNf.nd
 refine T.ztb.F.ok zNf (fun vs H Q E h=>?_) (fun cdv B outer s H vs Q E hr h=>?_)
 ·obtain ⟨l,rs,z,rfl,_⟩:=h
  rfl
 ·obtain ⟨l,rs,z,rfl,hl,hlen,k⟩:=h
  have hu:=zM hr
  refine ⟨_,(ze (zh (zxh (tt:=(z8k (tOp rEq (tOp (znC K) (z6h K (zAb 2) "status") (tC (.int 2))) (zAb 1)))) (te:=(zAb 2)) rfl nN (zYb (zn zGb hr T.zlb (za (pv 0) (za (zp (v:=.int (3)) rfl zkf ⟨_,rfl⟩) zb)))) (z9c (own:=[("run",2)]) (by rfl)) (fun _ _ _ _ _=>(zrb (i:=2) nN rfl (Or.inl rfl))) (fun _ _ _ _ _=>(zJh (zC zMb (zS z7j (zf (pv 2) rfl) zm (fun _ _=>rfl)) (pv 1) (zE _)))) (fun _ _ _ _ _=>(pv 2))))),?_⟩
  refine ⟨_,rfl,l,rs,_,rfl,hl,hlen,fun H1 q hq hq0 s0=>?_⟩
  obtain ⟨as,hql,hp⟩:=hq
  have hlen2:(rs.filter fun r=>decide (V.int (st0 r.st)=V.int 3)).length≤10000:=Nat.le_trans (List.length_filter_le ..) hlen
  refine ⟨q,rfl,⟨_,SqL.of hql⟩,fun D hD=>zUe (K:=K) (a:=q) (xs:=as.map V.ref) (fun i H'=>zB H1 H'∧zU A.zo H' D (((rs.filter fun r=>decide (V.int (st0 r.st)=V.int 3)).take i).filter fun r=>decide (V.int (st2 r.st)=V.int z)))
   ⟨zq hD,[],zc,.nil⟩ (fun i H' _ ⟨s1,_⟩=>SqL.of (s1 _ _ hql)) ?_ ?_⟩
  ·rintro i y H' hi ⟨s1,hD1⟩
   obtain ⟨a,ha,rfl⟩:=zCc hi
   obtain ⟨r,hri,hra⟩:=pat hp ha
   have hra:=zeb s1 hra
   obtain ⟨da,ta,ha1,ha2⟩:=id hra
   refine ⟨rfl,?_⟩
   refine ⟨_,rfl,a,A.zo,da,_,_,rfl,ha1,T.zJ,T.zvb,zFc _ _ _ _ _,ta,_,2,_,rfl,rfl,SqT.of ha2,zWC _,_,rfl,rfl,_,rfl,?_⟩
   refine zmb (fun c=>?_) fun c=>?_
   ·refine ⟨_,rfl,?_⟩
    exact zRf hri hD s1 hD1 hra c hlen2
   ·exact ⟨s1,zKf hri hD1 c⟩
  ·rintro H' ⟨s1,hD1⟩
   rw [List.length_map,zNb hp,List.take_length,List.filter_filter] at hD1
   refine k H' D ?_ (s0.free hD) (s0.trans s1)
   refine cast (congrArg (zU A.zo H' D) (List.filter_congr fun r _=>?_)) hD1
   rw [Bool.and_comm]
end
end Pv
namespace Pv
open PySem PySem.Spec PyProof.Rows L2
theorem prev {α β:Type} {F:α→β→Prop}:∀{l₁:List α} {l₂:List β},Paired F l₁ l₂→Paired F l₁.reverse l₂.reverse
 |_,_,.nil=>.nil
 |_,_,.cons r t=>by
  rw [List.reverse_cons,List.reverse_cons]
  exact Paired.snoc (prev t) r
theorem zCv {α:Type} {l:List α} {i:Nat} {x:α} (h:l[i]?=some x):l.drop i=x::l.drop (i + 1):=by
 obtain ⟨h1,h2⟩:=List.getElem?_eq_some_iff.mp h
 rw [List.drop_eq_getElem_cons h1,h2]
theorem zVu {C CP:Addr} {H H2:Hp} {q p dp c:Addr} {qs:List Addr} {ps:List Pm} {m:Pm} (hq0:H q=Option.none) (s:zB H H2) (hq:H2 q=some (.lst (qs.map V.ref))) (hp:Paired (zgf C CP H2) qs ps) (h1:zgf C CP H2 p m):
  zB H (upd H2 q (.lst (qs.map V.ref++[.ref p])))∧zNc C CP (upd H2 q (.lst (qs.map V.ref++[.ref p]))) q (ps++[m]):=by
 refine ⟨fun z o e=>?_,qs++[p],?_,Paired.snoc (z1c (fun _ _ z=>But.upd.part hq z) hp) (But.upd.part hq h1)⟩
 ·rw [zi (zk e hq0)]
  exact s _ _ e
 ·rw [zc,List.map_append]
  rfl
theorem zEA {c:Nat} {r:Rn} {l:List Rn} (h:0 < c):VM.grM c (r::l)=⟨r,max r.first (r.last + 1 - c),r.last⟩::VM.grM (c - (r.last + 1 - max r.first (r.last + 1 - c))) l:=if_pos h
theorem ziB {c:Nat} {r:Rn} {l:List Rn} (h:¬0 < c):VM.grM c (r::l)=VM.grM c l:=if_neg h
theorem zhy {c:Nat} {r:Rn} {l:List Rn} (h:0 < c):VM.z3b c (r::l)=⟨r,r.first,min r.last (r.first + c - 1)⟩::VM.z3b (c - (min r.last (r.first + c - 1) + 1 - r.first)) l:=if_pos h
theorem zWz {c:Nat} {r:Rn} {l:List Rn} (h:¬0 < c):VM.z3b c (r::l)=VM.z3b c l:=if_neg h
theorem z7m:∀(l:List Rn) (c:Nat),(VM.grM c l).length≤l.length
 |[],_=>Nat.le_refl _
 |r::l,c=>by
  unfold VM.grM
  by_cases q:0 < c
  ·rw [if_pos q,List.length_cons,List.length_cons]
   exact Nat.succ_le_succ (z7m l _)
  ·rw [if_neg q,List.length_cons]
   exact Nat.le_succ_of_le (z7m l _)
theorem zFi:∀(l:List Rn) (c:Nat),(VM.z3b c l).length≤l.length
 |[],_=>Nat.le_refl _
 |r::l,c=>by
  unfold VM.z3b
  by_cases q:0 < c
  ·rw [if_pos q,List.length_cons,List.length_cons]
   exact Nat.succ_le_succ (zFi l _)
  ·rw [if_neg q,List.length_cons]
   exact Nat.le_succ_of_le (zFi l _)
section
variable {P:Program} {w:World} {K:PySem.W.Frag} {mg:Str→Option Value} {base:Heap} {A:Adr}
def zEn (A:Adr):Sp:=fun vs H Q _=>∃(l:Addr) (rs:List Rn) (z:Int) (c:Nat),vs=[.ref l,.int z]∧z=c∧zU A.zo H l rs∧(∀r∈rs,r.first≤r.last)∧rs.length≤10000∧
 ∀(H':Hp) (q:Addr),zNc A.zo A.zcb H' q (VM.grM c rs.reverse)→H q=Option.none→zB H H'→Q (.ref q) H'
theorem ztn (T:Txt K mg A):zG P w K mg base CX0 3 A.zsi A.zai ["runs","count"] (zEn A):=by
 have zlf:=@zci P w K mg base A T
 have nN:=zwh.nd
 refine T.zgc.F.ok zwh (fun vs H Q E h=>?_) (fun cdv B outer s H vs Q E hr h=>?_)
 ·obtain ⟨l,rs,z,c,rfl,_⟩:=h
  rfl
 ·obtain ⟨l,rs,z,c,rfl,rfl,⟨as,hl,hp⟩,hle,hlen,k⟩:=h
  have hu:=zM hr
  refine ⟨_,(zd (zK (i:=2) nN rfl (Or.inl rfl) (zA zb))
   (zd (zK (i:=3) nN rfl (Or.inl rfl) (pv 1))
   (zd (zMd PassesOwn.never rfl (zSu rfl T.z4o (za (pv 0) zb)) (zrb (i:=4) nN rfl (Or.inl rfl)) (ze (zI (zC zGh (pv 3) zm (zE _)) (zd (zK (i:=5) nN rfl (Or.inl rfl) (z5 (zPf rfl) (by rfl) T.zXk (by rfl) (za (zf (pv 4) rfl) (za (zZ zdd (zZ zod (zf (pv 4) rfl) (pv 3)) zm) zb))))
   (zd (z4b (z6f PySem.F.plainAttrs_list PySem.F.slot_list_append PySem.F.type_list_append zSf (pv 2) (za (zYf T.zkn zlf (hr.mono (by decide)) rfl T.z0o T.zIg .nil zVe (za (pv 4) (za (pv 5) (za (zf (pv 4) rfl) zb)))) zb)))
   (ze (zVx (i:=3) nN rfl (Or.inl rfl) (zZ zdd (zZ zod (zf (pv 4) rfl) (pv 5)) zm) zky)))) zx)))
   (ze (zh (pv 2)))))),?_⟩
  refine ⟨Nat.zero_le _,fun q hq=>?_⟩
  have s0:zB H (upd H q (.lst [])):=zq hq
  refine ⟨_,rfl,_,rfl,l,_,rfl,SqL.of (s0 _ _ hl),zPA (K:=K) (a:=l) (xs:=as.map V.ref) (fun i σ H'=>∃(n:Nat) (ps:List Pm) (v4 v5:Option V),σ=[some (.ref l),some (.int c),some (.ref q),some (.int n),v4,v5]∧zB H H'∧zNc A.zo A.zcb H' q ps∧ps++VM.grM n (rs.reverse.drop i)=VM.grM c rs.reverse)
   ⟨c,[],none,none,rfl,s0,⟨[],zc,.nil⟩,rfl⟩ (fun i σ H' _ ⟨_,_,_,_,_,s1,_⟩=>SqL.of (s1 _ _ hl)) ?_ ?_⟩
  ·rintro i y σ H1 hi ⟨n,ps,v4,v5,rfl,s1,⟨qs,hq1,hq2⟩,hg⟩
   rw [←List.map_reverse] at hi
   obtain ⟨b,hb,rfl⟩:=zCc hi
   obtain ⟨r,hri,hrb⟩:=pat (prev hp) hb
   have hrb:=zeb s1 hrb
   obtain ⟨db,tb,hb1,hb2⟩:=id hrb
   have hr1:=hle r (List.mem_reverse.mp (List.mem_of_getElem? hri))
   rw [zCv hri] at hg
   have plen2:qs.length < sizeLine:=by
    have h1:=congrArg List.length hg
    rw [List.length_append] at h1
    have h2:=z7m rs.reverse c
    rw [List.length_reverse] at h2
    rw [zNb hq2]
    exact Nat.lt_of_le_of_lt (show ps.length≤10000 by omega) (by decide)
   refine ⟨_,rfl,_,_,rfl,rfl,_,rfl,?_⟩
   refine zmb (fun c1=>?_) fun c1=>?_
   ·have c1:=of_decide_eq_true c1
    have c2:0 < n:=by omega
    refine ⟨_,rfl,b,A.zo,db,_,_,rfl,hb1,T.zJ,T.znb,zBc _ _ _ _ _,_,rfl,b,A.zo,db,_,_,rfl,hb1,T.zJ,T.zXb,zGd _ _ _ _ _,_,rfl,_,_,rfl,rfl,_,_,rfl,rfl,_,_,rfl,?_⟩
    have em:(if (r.last:Int) - (n:Int) + 1 > (r.first:Int) then (r.last:Int) - (n:Int) + 1 else (r.first:Int))=((max r.first (r.last + 1 - n):Nat):Int):=by
     by_cases h:(r.last:Int) - (n:Int) + 1 > (r.first:Int)
     ·rw [if_pos h]
      omega
     ·rw [if_neg h]
      omega
    rw [em]
    refine ⟨_,rfl,.inl ⟨rfl,_,SqL.of hq1⟩,_,rfl,_,rfl,_,rfl,b,A.zo,db,_,_,rfl,hb1,T.zJ,T.zXb,zGd _ _ _ _ _,?_⟩
    intro p dp np ndp nep
    refine ⟨p,dp,b,_,_,rfl,zc,fun H2 h1 k1=>⟨rfl,?_⟩⟩
    have s2:zB H1 H2:=zld np ndp k1
    have hq3:=s2 _ _ hq1
    refine ⟨q,_,_,rfl,rfl,hq3,by rw [List.length_map];exact plen2,?_⟩
    obtain ⟨z1,z2⟩:=zVu (dp:=dp) (c:=b) hq (s1.trans s2) hq3 (z1c (fun _ _ z=>z0d s2 z) hq2) (⟨dp,b,h1,zeb s2 hrb⟩:zgf A.zo A.zcb H2 p ⟨r,max r.first (r.last + 1 - n),r.last⟩)
    have hb3:upd H2 q (.lst (qs.map V.ref++[.ref p])) b=some (.ins A.zo db (rf r.first r.last r.device r.month tb)):=by
     rw [zi (zZb (s2 _ _ hb1) hq3 (by intro w;cases w))]
     exact s2 _ _ hb1
    refine ⟨_,rfl,_,rfl,b,A.zo,db,_,_,rfl,hb3,T.zJ,T.zXb,zGd _ _ _ _ _,_,rfl,_,_,rfl,rfl,_,_,rfl,rfl,_,_,rfl,rfl,?_⟩
    refine ⟨n - (r.last + 1 - max r.first (r.last + 1 - n)),_,some (.ref b),some (.int ((max r.first (r.last + 1 - n):Nat):Int)),?_,z1,z2,?_⟩
    ·have e:(n:Int) - ((r.last:Int) - ((max r.first (r.last + 1 - n):Nat):Int) + 1)=((n - (r.last + 1 - max r.first (r.last + 1 - n)):Nat):Int):=by omega
     rw [←e]
     rfl
    ·rw [←hg,List.append_assoc,zEA c2]
     rfl
   ·have c1:=of_decide_eq_false (Bool.eq_false_iff.mpr c1)
    refine ⟨n,ps,_,_,rfl,s1,⟨qs,hq1,hq2⟩,?_⟩
    rw [←hg,ziB (by omega)]
  ·rintro σ H1 ⟨n,ps,v4,v5,rfl,s1,hq1,hg⟩
   rw [List.length_map,zNb hp,List.drop_eq_nil_of_le (by rw [List.length_reverse];exact Nat.le_refl _)] at hg
   have hg:ps=VM.grM c rs.reverse:=by
    rw [←hg]
    exact (List.append_nil _).symm
   rw [hg] at hq1
   exact ⟨_,rfl,k H1 q hq1 hq s1⟩
end
end Pv
namespace Pv
open PySem PySem.Spec PyProof.Rows L2
abbrev zaf:Str:=("earliest_parts":Str)++".<locals>."++"<lambda>"
abbrev zMe:Str:=("ten_thousandths":Str)++".<locals>."++"<lambda>"
abbrev z7q (A:Adr) (H:Hp):Prop:=zvc H A.zHb zcf zaf
abbrev zWo (A:Adr) (H:Hp):Prop:=zvc H A.zob zHe zMe
theorem zye {H:Hp} {T:Addr} {pos:Pos} {q:Str} (t:zvc H T pos q):∃ps,H T=some (.tbl ps):=by
 rcases t with t|⟨_,t,_⟩
 ·exact ⟨_,t⟩
 ·exact ⟨_,t⟩
theorem tab_run {C a T:Addr} {r:Rn} {H H':Hp} {pos:Pos} {q:Str} (s:But T H H') (t:zvc H T pos q) (h:zQb C H a r):zQb C H' a r:=by
 obtain ⟨ps,hT⟩:=zye t
 obtain ⟨dx,u,h1,h2⟩:=h
 exact ⟨dx,u,s _ _ h1 (zZb h1 hT (by intro z;cases z)),s _ _ h2 (zZb h2 hT (by intro z;cases z))⟩
theorem But.tab {l T:Addr} {xs:List V} {H H':Hp} {pos:Pos} {q:Str} (s:But l H H') (hl:H l=some (.lst xs)) (t:zvc H T pos q):zvc H' T pos q:=by
 rcases t with t|⟨c,t,u⟩
 ·exact .inl (s _ _ t (zZb t hl (by intro z;cases z)))
 ·exact .inr ⟨c,s _ _ t (zZb t hl (by intro z;cases z)),s _ _ u (zZb u hl (by intro z;cases z))⟩
theorem zut {C:Addr} {H:Hp}:∀{as:List Addr} {rs:List Rn},Paired (zQb C H) as rs→Paired (fun (z:(Int×Int)×V) (p:Addr×Rn)=>z=(((p.2.month:Int),(p.2.first:Int)),V.ref p.1)∧zQb C H p.1 p.2) ((rs.map fun r=>((r.month:Int),(r.first:Int))).zip (as.map V.ref)) (as.zip rs)
 |_,_,.nil=>.nil
 |_,_,.cons r t=>.cons ⟨rfl,r⟩ (zut t)
theorem zHi {α β:Type} {R:α→β→Prop} {S:α→α→Prop} {S':β→β→Prop}:∀{l:List α} {m:List β},Paired R l m→l.Pairwise S→(∀a a' b b',R a b→R a' b'→S a a'→S' b b')→m.Pairwise S'
 |_,_,.nil,_,_=>List.Pairwise.nil
 |a::l,b::m,.cons r t,h,f=>by
  obtain ⟨h1,h2⟩:=List.pairwise_cons.mp h
  refine List.pairwise_cons.mpr ⟨fun b' hb'=>?_,zHi t h2 f⟩
  obtain ⟨i,hi⟩:=List.getElem?_of_mem hb'
  obtain ⟨a',ha',ra⟩:=zse t hi
  exact f a a' b b' r ra (h1 a' (List.mem_of_getElem? ha'))
theorem zxv {α β:Type} {F:α→β→Prop}:∀{l:List α} {m:List β},Paired F l m→(l.zip m).map (·.2)=m
 |_,_,.nil=>rfl
 |_,_,.cons _ t=>by
  rw [List.zip_cons_cons,List.map_cons,zxv t]
theorem zFu {C:Addr} {H:Hp} {as:List Addr} {rs:List Rn} {zs:List ((Int×Int)×V)} (hp:Paired (zQb C H) as rs) (hn:(rs.map fun r=>r.first).Nodup) (z1:zs.Perm ((rs.map fun r=>((r.month:Int),(r.first:Int))).zip (as.map V.ref))) (z2:zs.Pairwise fun p q=>KLe p.1 q.1):
  ∃bs:List Addr,zs.map (·.2)=bs.map V.ref∧Paired (zQb C H) bs (Vbemak.sorted rs):=by
 obtain ⟨ws,w1,w2⟩:=z6n z1 (zut hp)
 have e1:(ws.map (·.2)).Perm rs:=by
  have:=w2.map (·.2)
  rw [zxv hp] at this
  exact this
 have nd:((ws.map (·.2)).map fun r=>r.first).Nodup:=(e1.map _).nodup_iff.mpr hn
 have ord:(ws.map (·.2)).Pairwise VM.z5c:=by
  have p1:ws.Pairwise fun a b=>KLe ((a.2.month:Int),(a.2.first:Int)) ((b.2.month:Int),(b.2.first:Int)):=zHi w1 z2 fun a a' b b' r1 r2 h=>by
   rw [r1.1,r2.1] at h
   exact h
  rw [List.map_map] at nd
  have p2:ws.Pairwise fun a b=>a.2.first≠b.2.first:=by
   have:=List.pairwise_map.mp nd
   exact this
  rw [List.pairwise_map]
  refine (p1.and p2).imp ?_
  intro a b h
  obtain ⟨h1,h2⟩:=h
  unfold KLe at h1
  unfold VM.z5c
  dsimp only at h1
  omega
 have e2:=VM.zHy hn e1 ord
 refine ⟨ws.map (·.1),?_,?_⟩
 ·have all:∀{l:List ((Int×Int)×V)} {m:List (Addr×Rn)},Paired (fun (z:(Int×Int)×V) (p:Addr×Rn)=>z=(((p.2.month:Int),(p.2.first:Int)),V.ref p.1)∧zQb C H p.1 p.2) l m→l.map (·.2)=(m.map (·.1)).map V.ref:=by
   intro l m h
   induction h with
   |nil=>rfl
   |cons r _ ih=>rw [List.map_cons,List.map_cons,List.map_cons,ih,r.1]
  exact all w1
 ·rw [←e2]
  have all:∀{l:List ((Int×Int)×V)} {m:List (Addr×Rn)},Paired (fun (z:(Int×Int)×V) (p:Addr×Rn)=>z=(((p.2.month:Int),(p.2.first:Int)),V.ref p.1)∧zQb C H p.1 p.2) l m→Paired (zQb C H) (m.map (·.1)) (m.map (·.2)):=by
   intro l m h
   induction h with
   |nil=>exact .nil
   |cons r _ ih=>exact .cons r.2 ih
  exact all w1
section
variable {P:Program} {w:World} {K:PySem.W.Frag} {mg:Str→Option Value} {base:Heap} {A:Adr}
def zun (A:Adr):Sp:=fun vs H Q _=>∃(l:Addr) (rs:List Rn) (z:Int) (c:Nat),vs=[.ref l,.int z]∧z=c∧zU A.zo H l rs∧(∀r∈rs,r.first≤r.last)∧(rs.map fun r=>r.first).Nodup∧rs.length≤10000∧z7q A H∧
 ∀(H':Hp) (q:Addr),zNc A.zo A.zcb H' q (VM.z3b c (Vbemak.sorted rs))→H q=Option.none→But A.zHb H H'→z7q A H'→Q (.ref q) H'
theorem zwn (T:Txt K mg A) (LM:zHj base mg A):zG P w K mg base CX0 3 A.z1h A.zJf ["runs","count"] (zun A):=by
 have zlf:=@zci P w K mg base A T
 have nN:=znh.nd
 refine T.zmc.F.okT znh (fun vs H Q E h=>?_) (fun B outer s H vs Q E hr h=>?_)
 ·obtain ⟨l,rs,z,c,rfl,_⟩:=h
  rfl
 ·obtain ⟨l,rs,z,c,rfl,rfl,⟨as,hl,hp⟩,hle,hnd,hlen,hT,k⟩:=h
  have hu:=zM hr
  have hcode:=T.zrh
  have hcd:=LM.zQo
  refine ⟨_,(zd (zK (i:=2) nN rfl (Or.inl rfl) (zA zb))
   (zd (zK (i:=3) nN rfl (Or.inl rfl) (pv 1))
   (zd (zMd PassesOwn.never rfl (zYb (ziw (k:=0) (px:="one") (fr:=[]) (frn:=[]) (tb:=(zFz (zVd (z6h K (zAb 0) "month") (zVd (z6h K (zAb 0) "first") zjh)))) (hr.mono (by decide)) rfl T.zGk hcode hcd LM.bm (zSs rfl rfl rfl rfl rfl rfl rfl) rfl rfl (fun _ _ _ _=>rfl) (fun _ _ h=>nomatch h) (fun _ h=>nomatch h) rfl (fun _ _ _ h=>nomatch h) (za (pv 0) zb) (fun _ _ _ _ _=>(zjf (za (zf (pv 0) rfl) (za (zf (pv 0) rfl) zb)))))) (zrb (i:=4) nN rfl (Or.inl rfl)) (ze (zI (zC zGh (pv 3) zm (zE _)) (zd (zK (i:=5) nN rfl (Or.inl rfl) (z5 (zMr rfl) (by rfl) T.z9v (by rfl) (za (zf (pv 4) rfl) (za (zZ zod (zZ zdd (zf (pv 4) rfl) (pv 3)) zm) zb))))
   (zd (z4b (z6f PySem.F.plainAttrs_list PySem.F.slot_list_append PySem.F.type_list_append zSf (pv 2) (za (zYf T.zkn zlf (hr.mono (by decide)) rfl T.z0o T.zIg .nil zVe (za (pv 4) (za (zf (pv 4) rfl) (za (pv 5) zb)))) zb)))
   (ze (zVx (i:=3) nN rfl (Or.inl rfl) (zZ zdd (zZ zod (pv 5) (zf (pv 4) rfl)) zm) zky)))) zx)))
   (ze (zh (pv 2)))))),?_⟩
  refine ⟨Nat.zero_le _,fun q hq=>?_⟩
  have s0:zB H (upd H q (.lst [])):=zq hq
  refine ⟨_,rfl,_,rfl,l,as.map V.ref,rs.map fun r=>((r.month:Int),(r.first:Int)),rfl,SqL.of (s0 _ _ hl),?_,hT.same s0,?_,?_⟩
  ·rw [List.length_map,List.length_map,zNb hp]
  ·intro i x kk H2 hx hk s2
   obtain ⟨a,ha,rfl⟩:=zCc hx
   obtain ⟨r,hri,hra⟩:=pat hp ha
   rw [List.getElem?_map,hri] at hk
   have hk:=Option.some.inj hk
   subst hk
   obtain ⟨da,ta,ha1,ha2⟩:=tab_run s2 (hT.same s0) (zeb s0 hra)
   exact ⟨_,rfl,a,A.zo,da,_,_,rfl,ha1,T.zJ,T.zec,z9d _ _ _ _ _,_,rfl,a,A.zo,da,_,_,rfl,ha1,T.zJ,T.znb,zBc _ _ _ _ _,(by show 2≤sizeLine;decide),fun p hp=>⟨zq hp,p,rfl,zc⟩⟩
  ·intro H2 D zs s2 t2 hD0 hD hz1 hz2
   obtain ⟨bs,eb,hb⟩:=zFu (C:=A.zo) (H:=H2) (z1c (fun _ _ z=>tab_run s2 (hT.same s0) (zeb s0 z)) hp) hnd hz1 hz2
   rw [eb] at hD
   have hq2:H2 q=some (.lst []):=s2 _ _ zc (fun e=>by
    obtain ⟨ps,hps⟩:=zye hT
    rw [←e,hq] at hps
    cases hps)
   have nqD:q≠D:=zk zc hD0
   have hle2:∀r∈Vbemak.sorted rs,r.first≤r.last:=fun r hr=>hle r ((VM.zPc rs).mem_iff.mp hr)
   refine ⟨D,rfl,⟨_,SqL.of hD⟩,zwd (K:=K) (a:=D) (xs:=bs.map V.ref) (fun i σ H'=>∃(n:Nat) (ps:List Pm) (v4 v5:Option V),σ=[some (.ref l),some (.int c),some (.ref q),some (.int n),v4,v5]∧But q H2 H'∧zNc A.zo A.zcb H' q ps∧ps++VM.z3b n ((Vbemak.sorted rs).drop i)=VM.z3b c (Vbemak.sorted rs))
    ⟨c,[],none,none,rfl,fun _ _ e _=>e,⟨[],hq2,.nil⟩,rfl⟩ (fun i σ H' _ ⟨_,_,_,_,_,s1,_⟩=>SqL.of (s1 _ _ hD nqD.symm)) ?_ ?_⟩
   ·rintro i y σ H3 hi ⟨n,ps,v4,v5,rfl,s3,⟨qs,hq3,hq4⟩,hg⟩
    obtain ⟨b,hbi,rfl⟩:=zCc hi
    obtain ⟨r,hri,hrb⟩:=pat hb hbi
    have hrb:zQb A.zo H3 b r:=s3.run hq2 hrb
    obtain ⟨db,tb,hb1,hb2⟩:=id hrb
    have hr1:=hle2 r (List.mem_of_getElem? hri)
    rw [zCv hri] at hg
    have plen2:qs.length < sizeLine:=by
     have h1:=congrArg List.length hg
     rw [List.length_append] at h1
     have h2:=zFi (Vbemak.sorted rs) c
     rw [(VM.zPc rs).length_eq] at h2
     rw [zNb hq4]
     exact Nat.lt_of_le_of_lt (show ps.length≤10000 by omega) (by decide)
    refine ⟨_,rfl,_,_,rfl,rfl,_,rfl,?_⟩
    refine zmb (fun c1=>?_) fun c1=>?_
    ·have c1:=of_decide_eq_true c1
     have c2:0 < n:=by omega
     refine ⟨_,rfl,b,A.zo,db,_,_,rfl,hb1,T.zJ,T.zXb,zGd _ _ _ _ _,_,rfl,b,A.zo,db,_,_,rfl,hb1,T.zJ,T.znb,zBc _ _ _ _ _,_,rfl,_,_,rfl,rfl,_,_,rfl,rfl,_,_,rfl,?_⟩
     have em:(if (r.first:Int) + (n:Int) - 1 < (r.last:Int) then (r.first:Int) + (n:Int) - 1 else (r.last:Int))=((min r.last (r.first + n - 1):Nat):Int):=by
      by_cases h:(r.first:Int) + (n:Int) - 1 < (r.last:Int)
      ·rw [if_pos h]
       omega
      ·rw [if_neg h]
       omega
     rw [em]
     refine ⟨_,rfl,.inl ⟨rfl,_,SqL.of hq3⟩,_,rfl,_,rfl,b,A.zo,db,_,_,rfl,hb1,T.zJ,T.znb,zBc _ _ _ _ _,_,rfl,?_⟩
     intro p dp np ndp nep
     refine ⟨p,dp,b,_,_,rfl,zc,fun H4 h1 k1=>⟨rfl,?_⟩⟩
     have s4:zB H3 H4:=zld np ndp k1
     have hq5:=s4 _ _ hq3
     refine ⟨q,_,_,rfl,rfl,hq5,by rw [List.length_map];exact plen2,?_⟩
     have hb3:upd H4 q (.lst (qs.map V.ref++[.ref p])) b=some (.ins A.zo db (rf r.first r.last r.device r.month tb)):=by
      rw [zi (zZb (s4 _ _ hb1) hq5 (by intro w;cases w))]
      exact s4 _ _ hb1
     refine ⟨_,rfl,_,rfl,_,rfl,b,A.zo,db,_,_,rfl,hb3,T.zJ,T.znb,zBc _ _ _ _ _,_,_,rfl,rfl,_,_,rfl,rfl,_,_,rfl,rfl,?_⟩
     refine ⟨n - (min r.last (r.first + n - 1) + 1 - r.first),ps++[⟨r,r.first,min r.last (r.first + n - 1)⟩],some (.ref b),some (.int ((min r.last (r.first + n - 1):Nat):Int)),?_,?_,?_,?_⟩
     ·have e:(n:Int) - (((min r.last (r.first + n - 1):Nat):Int) - (r.first:Int) + 1)=((n - (min r.last (r.first + n - 1) + 1 - r.first):Nat):Int):=by omega
      rw [←e]
      rfl
     ·exact (s3.same s4).trans But.upd
     ·refine ⟨qs++[p],?_,Paired.snoc (z1c (fun _ _ z=>But.upd.part hq5 (z0d s4 z)) hq4) (But.upd.part hq5 ⟨dp,b,h1,zeb s4 hrb⟩)⟩
      rw [zc,List.map_append]
      rfl
     ·rw [←hg,List.append_assoc,zhy c2]
      rfl
    ·have c1:=of_decide_eq_false (Bool.eq_false_iff.mpr c1)
     refine ⟨n,ps,_,_,rfl,s3,⟨qs,hq3,hq4⟩,?_⟩
     rw [←hg,zWz (by omega)]
   ·rintro σ H3 ⟨n,ps,v4,v5,rfl,s3,hq1,hg⟩
    rw [List.length_map,zNb hb,List.drop_eq_nil_of_le (Nat.le_refl _)] at hg
    have hg:ps=VM.z3b c (Vbemak.sorted rs):=by
     rw [←hg]
     exact (List.append_nil _).symm
    rw [hg] at hq1
    refine ⟨_,rfl,k H3 q hq1 hq (fun b o e n=>s3 _ _ (s2 _ _ (s0 _ _ e) n) (zk e hq)) (s3.tab hq2 t2)⟩
end
end Pv
namespace Pv
open PySem PySem.Spec PyProof.Rows L2
abbrev Sta:=Vbemak.State
abbrev Dvc:=Vbemak.Device
abbrev Ofr:=Vbemak.Offer
def df (o t i w b:Int):List (Str×V):=[("owner",.int o),("technique",.int t),("issued",.int i),("withdrawn",.int w),("balance",.int b)]
def of_ (s t f l:Int):List (Str×V):=[("source",.int s),("to",.int t),("first",.int f),("last",.int l)]
def bf (op:Bool) (li wi no ac:Int) (dl td rl od:Addr) (ma:Int):List (Str×V):=
 [("opened",.bl op),("life",.int li),("window",.int wi),("now",.int no),("accounts",.int ac),("devices",.ref dl),("totals",.ref td),("runs",.ref rl),("offers",.ref od),("offers_made",.int ma)]
section
variable (o t i w b:Int)
theorem z3k:lk (df o t i w b) "owner"=some (.int o):=by rfl
theorem zUh:lk (df o t i w b) "technique"=some (.int t):=by rfl
theorem zZr:lk (df o t i w b) "issued"=some (.int i):=by rfl
theorem zgm:lk (df o t i w b) "withdrawn"=some (.int w):=by rfl
theorem z4d:lk (df o t i w b) "balance"=some (.int b):=by rfl
theorem zpr:lk (of_ o t i w) "source"=some (.int o):=by rfl
theorem zaA:lk (of_ o t i w) "to"=some (.int t):=by rfl
theorem zZt:lk (of_ o t i w) "first"=some (.int i):=by rfl
theorem zMv:lk (of_ o t i w) "last"=some (.int w):=by rfl
end
section
variable (op:Bool) (li wi no ac:Int) (dl td rl od:Addr) (ma:Int)
theorem z2r:lk (bf op li wi no ac dl td rl od ma) "opened"=some (.bl op):=by rfl
theorem zSv:lk (bf op li wi no ac dl td rl od ma) "life"=some (.int li):=by rfl
theorem zZx:lk (bf op li wi no ac dl td rl od ma) "window"=some (.int wi):=by rfl
theorem zPj:lk (bf op li wi no ac dl td rl od ma) "now"=some (.int no):=by rfl
theorem zOg:lk (bf op li wi no ac dl td rl od ma) "accounts"=some (.int ac):=by rfl
theorem z0e:lk (bf op li wi no ac dl td rl od ma) "devices"=some (.ref dl):=by rfl
theorem zPe:lk (bf op li wi no ac dl td rl od ma) "totals"=some (.ref td):=by rfl
theorem zBb:lk (bf op li wi no ac dl td rl od ma) "runs"=some (.ref rl):=by rfl
theorem zjd:lk (bf op li wi no ac dl td rl od ma) "offers"=some (.ref od):=by rfl
theorem z2j:lk (bf op li wi no ac dl td rl od ma) "offers_made"=some (.int ma):=by rfl
theorem zmf:(bf op li wi no ac dl td rl od ma).length < 1000:=by show 10 < 1000;decide
end
theorem zNj (o t i w b:Int):(df o t i w b).length < 1000:=by show 5 < 1000;decide
def zxk (C:Addr) (H:Hp) (a:Addr) (d:Dvc):Prop:=∃dx,H a=some (.ins C dx (df d.owner d.tech d.issued d.withdrawn d.balance))
def zuk (C:Addr) (H:Hp) (a:Addr) (o:Ofr):Prop:=∃dx,H a=some (.ins C dx (of_ o.from_ o.to_ o.first o.last))
structure Loc where
 bk:Addr
 dl:Addr
 td:Addr
 rl:Addr
 od:Addr
 das:List Addr
def Loc.own (A:Adr) (L:Loc):List Addr:=L.bk::L.dl::L.td::L.od::A.zHb::A.zob::L.das
def tkv (t:Vbemak.Total):List Key×V:=([Sum.inl (t.device:Int),Sum.inl (t.month:Int)],.int t.total)
def okv (as:List Addr) (os:List Ofr):List (Key×V):=(as.zip os).map fun x=>(Sum.inl (x.2.num:Int),V.ref x.1)
structure zw (A:Adr) (H:Hp) (L:Loc) (s:Sta):Prop where
 book:∃dx,H L.bk=some (.ins A.zg dx (bf s.opened s.life s.window s.now s.accounts L.dl L.td L.rl L.od s.offered))
 devs:H L.dl=some (.lst (L.das.map V.ref))
 dev:Paired (zxk A.zy H) L.das s.devices
 nd:L.das.Nodup
 tots:∃kvs,H L.td=some (.dT kvs)∧kvs.Perm (s.totals.map tkv)
 runs:zU A.zo H L.rl s.runs
 rne:L.rl≠L.dl
 offs:∃oas,H L.od=some (.dK (okv oas s.offers))∧Paired (zuk A.zab H) oas s.offers
 t1:z7q A H
 t2:zWo A H
theorem zw.same {A:Adr} {H H':Hp} {L:Loc} {s:Sta} (B:zw A H L s) (k:zB H H'):zw A H' L s where
 book:=let ⟨dx,h⟩:=B.book;⟨dx,k _ _ h⟩
 devs:=k _ _ B.devs
 dev:=z1c (fun _ _ ⟨dx,h⟩=>⟨dx,k _ _ h⟩) B.dev
 nd:=B.nd
 tots:=let ⟨kvs,h,p⟩:=B.tots;⟨kvs,k _ _ h,p⟩
 runs:=zVc k B.runs
 rne:=B.rne
 offs:=let ⟨oas,h,p⟩:=B.offs;⟨oas,k _ _ h,z1c (fun _ _ ⟨dx,h⟩=>⟨dx,k _ _ h⟩) p⟩
 t1:=B.t1.same k
 t2:=B.t2.same k
structure Own (A:Adr) (o:HO):Prop where
 tup:∀ys,o≠.tup ys
 tbl:∀ps,o≠.tbl ps
 ext:∀φ,o≠.ext φ
 run:∀dx fs,o≠.ins A.zo dx fs
 off:∀dx fs,o≠.ins A.zab dx fs
theorem z5m {A:Adr} {xs:List V}:Own A (.lst xs):=⟨fun _ z=>(nomatch z),fun _ z=>(nomatch z),fun _ z=>(nomatch z),fun _ _ z=>(nomatch z),fun _ _ z=>(nomatch z)⟩
theorem zHB {A:Adr} {xs:List (List Key×V)}:Own A (.dT xs):=⟨fun _ z=>(nomatch z),fun _ z=>(nomatch z),fun _ z=>(nomatch z),fun _ _ z=>(nomatch z),fun _ _ z=>(nomatch z)⟩
theorem zdu {A:Adr} {xs:List (Key×V)}:Own A (.dK xs):=⟨fun _ z=>(nomatch z),fun _ z=>(nomatch z),fun _ z=>(nomatch z),fun _ _ z=>(nomatch z),fun _ _ z=>(nomatch z)⟩
theorem zIe {K:PySem.W.Frag} {mg:Str→Option Value} {A:Adr} {dx:Addr} {fs:List (Str×V)} (T:Txt K mg A):Own A (.ins A.zg dx fs):=
 ⟨fun _ z=>(nomatch z),fun _ z=>(nomatch z),fun _ z=>(nomatch z),fun _ _ z=>by injection z with z;exact T.zXn z,fun _ _ z=>by injection z with z;exact T.zll z.symm⟩
theorem zGq {K:PySem.W.Frag} {mg:Str→Option Value} {A:Adr} {dx:Addr} {fs:List (Str×V)} (T:Txt K mg A):Own A (.ins A.zy dx fs):=
 ⟨fun _ z=>(nomatch z),fun _ z=>(nomatch z),fun _ z=>(nomatch z),fun _ _ z=>by injection z with z;exact T.zql z,fun _ _ z=>by injection z with z;exact T.zQi z⟩
section
variable {A:Adr} {x:Addr} {o:HO} {H H':Hp}
theorem zP {b:Addr} {u:HO} (hx:H x=some o) (hb:H b=some u) (n:o≠u):b≠x:=fun e=>by
 rw [e,hx] at hb
 exact n (Option.some.inj hb)
theorem zPo {a:Addr} {r:Rn} (s:But x H H') (hx:H x=some o) (w:Own A o) (h:zQb A.zo H a r):zQb A.zo H' a r:=by
 obtain ⟨dx,t,h1,h2⟩:=h
 exact ⟨dx,t,s _ _ h1 (zP hx h1 (w.run _ _)),s _ _ h2 (zP hx h2 (w.tup _))⟩
theorem zie {l:Addr} {rs:List Rn} (s:But x H H') (hx:H x=some o) (w:Own A o) (n:l≠x) (h:zU A.zo H l rs):zU A.zo H' l rs:=by
 obtain ⟨as,h1,h2⟩:=h
 exact ⟨as,s _ _ h1 n,z1c (fun _ _ z=>zPo s hx w z) h2⟩
theorem zGf {as:List Addr} {os:List Ofr} (s:But x H H') (hx:H x=some o) (w:Own A o) (h:Paired (zuk A.zab H) as os):Paired (zuk A.zab H') as os:=
 z1c (fun _ _ ⟨dx,z⟩=>⟨dx,s _ _ z (zP hx z (w.off _ _))⟩) h
theorem zDd {T:Addr} {pos:Pos} {q:Str} (s:But x H H') (hx:H x=some o) (w:Own A o) (t:zvc H T pos q):zvc H' T pos q:=by
 rcases t with t|⟨c,t,u⟩
 ·exact .inl (s _ _ t (zP hx t (w.tbl _)))
 ·exact .inr ⟨c,s _ _ t (zP hx t (w.tbl _)),s _ _ u (zP hx u (w.ext _))⟩
theorem zQh {as:List Addr} {ds:List Dvc} (s:But x H H') (hx:H x=some o) (n:∀dx fs,o≠.ins A.zy dx fs) (h:Paired (zxk A.zy H) as ds):Paired (zxk A.zy H') as ds:=
 z1c (fun _ _ ⟨dx,z⟩=>⟨dx,s _ _ z (zP hx z (n _ _))⟩) h
end
theorem zw.atBook {K:PySem.W.Frag} {mg:Str→Option Value} {A:Adr} {H H':Hp} {L:Loc} {s s':Sta} {rl' od':Addr} (T:Txt K mg A) (B:zw A H L s) (k:But L.bk H H')
  (hb:∃dx,H' L.bk=some (.ins A.zg dx (bf s'.opened s'.life s'.window s'.now s'.accounts L.dl L.td rl' od' s'.offered))) (hd:s'.devices=s.devices) (ht:s'.totals=s.totals)
  (hr:zU A.zo H' rl' s'.runs) (hn:rl'≠L.dl) (ho:∃oas,H' od'=some (.dK (okv oas s'.offers))∧Paired (zuk A.zab H') oas s'.offers):zw A H' { L with rl:=rl',od:=od' } s':=by
 obtain ⟨dx,h⟩:=B.book
 have w:=zIe (dx:=dx) (fs:=bf s.opened s.life s.window s.now s.accounts L.dl L.td L.rl L.od s.offered) T
 exact {
  book:=hb
  devs:=k _ _ B.devs (zP h B.devs (fun z=>nomatch z))
  dev:=by
   rw [hd]
   exact zQh k h (fun _ _ z=>by injection z with z;exact T.zZd z.symm) B.dev
  nd:=B.nd
  tots:=by
   obtain ⟨kvs,h1,h2⟩:=B.tots
   rw [ht]
   exact ⟨kvs,k _ _ h1 (zP h h1 (fun z=>nomatch z)),h2⟩
  runs:=hr
  rne:=hn
  offs:=ho
  t1:=zDd k h w B.t1
  t2:=zDd k h w B.t2 }
theorem zw.runsB {K:PySem.W.Frag} {mg:Str→Option Value} {A:Adr} {H H':Hp} {L:Loc} {s:Sta} (T:Txt K mg A) (B:zw A H L s) (k:But L.bk H H'):zU A.zo H' L.rl s.runs:=by
 obtain ⟨dx,h⟩:=B.book
 obtain ⟨as,h1,h2⟩:=id B.runs
 exact zie k h (zIe T) (zP h h1 (fun z=>nomatch z)) B.runs
theorem zw.offsB {K:PySem.W.Frag} {mg:Str→Option Value} {A:Adr} {H H':Hp} {L:Loc} {s:Sta} (T:Txt K mg A) (B:zw A H L s) (k:But L.bk H H'):∃oas,H' L.od=some (.dK (okv oas s.offers))∧Paired (zuk A.zab H') oas s.offers:=by
 obtain ⟨dx,h⟩:=B.book
 obtain ⟨oas,h1,h2⟩:=B.offs
 exact ⟨oas,k _ _ h1 (zP h h1 (fun z=>nomatch z)),zGf k h (zIe T) h2⟩
structure Keeps (A:Adr) (L L':Loc) (H H':Hp):Prop where
 bk:L'.bk=L.bk
 keep:∀b o,H b=some o→b∉L.own A→H' b=some o
 sub:∀b∈L'.own A,b∈L.own A∨H b=Option.none
theorem Keeps.same {A:Adr} {L:Loc} {H H':Hp} (k:zB H H'):Keeps A L L H H':=⟨rfl,fun b o e _=>k b o e,fun b h=>.inl h⟩
theorem Keeps.but {A:Adr} {L:Loc} {H H':Hp} {x:Addr} (k:But x H H') (hx:x∈L.own A):Keeps A L L H H':=⟨rfl,fun b o e n=>k b o e fun z=>n (z ▸ hx),fun b h=>.inl h⟩
abbrev zX (A:Adr) (H:Hp) (L:Loc) (r:Sta×List Int) (Q:VK):Prop:=∀(H':Hp) (L':Loc) (q:Addr),zw A H' L' r.1→H' q=some (.lst (r.2.map V.int))→Keeps A L L' H H'→Q (.ref q) H'
section
variable {P:Program} {w:World} {K:PySem.W.Frag} {mg:Str→Option Value} {base:Heap} {A:Adr}
def zNq (A:Adr):Sp:=fun vs H Q _=>∃(p dx:Addr) (o t:Int),vs=[.ref p,.int o,.int t]∧H p=some (.ins A.zy dx [])∧∀H':Hp,H' p=some (.ins A.zy dx (df o t 0 0 0))→But p H H'→Q .non H'
theorem zzq (T:Txt K mg A):zG P w K mg base CX0 1 A.zch A.zgh ["self","owner","technique"] (zNq A):=by
 have nN:=zhk.nd
 refine T.zkl.ok zhk (fun vs H Q E h=>?_) (fun cdv B outer s H vs Q E hr h=>?_)
 ·obtain ⟨p,dx,o,t,rfl,_⟩:=h
  rfl
 ·obtain ⟨p,dx,o,t,rfl,hp,k⟩:=h
  have hu:=zM hr
  refine ⟨_,(zd (zdb (pv 0) (pv 1) rfl)
   (zd (zdb (pv 0) (pv 2) rfl)
   (zd (zdb (pv 0) zm rfl)
   (zd (zdb (pv 0) zm rfl)
   (ze (zdb (pv 0) zm rfl)))))),?_⟩
  refine ⟨_,rfl,_,rfl,p,A.zy,dx,[],rfl,hp,T.zbb,T.zJc,(by show 0 < 1000;decide),?_⟩
  refine ⟨_,rfl,_,rfl,p,A.zy,dx,_,rfl,zc,T.zbb,T.zZc,(by show 1 < 1000;decide),?_⟩
  refine ⟨_,rfl,p,A.zy,dx,_,rfl,zc,T.zbb,T.zue,(by show 2 < 1000;decide),?_⟩
  refine ⟨_,rfl,p,A.zy,dx,_,rfl,zc,T.zbb,T.zJd,(by show 3 < 1000;decide),?_⟩
  refine ⟨_,rfl,p,A.zy,dx,_,rfl,zc,T.zbb,T.zKb,(by show 4 < 1000;decide),?_⟩
  refine k _ zc fun b o e hb=>?_
  rw [zi hb,zi hb,zi hb,zi hb,zi hb]
  exact e
def zCs (A:Adr):Sp:=fun vs H Q _=>∃(p dx:Addr) (a b c d:Int),vs=[.ref p,.int a,.int b,.int c,.int d]∧H p=some (.ins A.zab dx [])∧∀H':Hp,H' p=some (.ins A.zab dx (of_ a b c d))→But p H H'→Q .non H'
theorem zrs (T:Txt K mg A):zG P w K mg base CX0 1 A.zOh A.zgi ["self","source","to","first","last"] (zCs A):=by
 have nN:=znl.nd
 refine T.zVl.ok znl (fun vs H Q E h=>?_) (fun cdv B outer s H vs Q E hr h=>?_)
 ·obtain ⟨p,dx,a,b,c,d,rfl,_⟩:=h
  rfl
 ·obtain ⟨p,dx,a,b,c,d,rfl,hp,k⟩:=h
  have hu:=zM hr
  refine ⟨_,(zd (zdb (pv 0) (pv 1) rfl)
   (zd (zdb (pv 0) (pv 2) rfl)
   (zd (zdb (pv 0) (pv 3) rfl)
   (ze (zdb (pv 0) (pv 4) rfl))))),?_⟩
  refine ⟨_,rfl,_,rfl,p,A.zab,dx,[],rfl,hp,T.zKc,T.z2e,(by show 0 < 1000;decide),?_⟩
  refine ⟨_,rfl,_,rfl,p,A.zab,dx,_,rfl,zc,T.zKc,T.zIh,(by show 1 < 1000;decide),?_⟩
  refine ⟨_,rfl,_,rfl,p,A.zab,dx,_,rfl,zc,T.zKc,T.ztf,(by show 2 < 1000;decide),?_⟩
  refine ⟨_,rfl,_,rfl,p,A.zab,dx,_,rfl,zc,T.zKc,T.zZf,(by show 3 < 1000;decide),?_⟩
  refine k _ zc fun b o e hb=>?_
  rw [zi hb,zi hb,zi hb,zi hb]
  exact e
def z9q (A:Adr):Sp:=fun vs H Q _=>∃(L:Loc) (s:Sta) (n:Int),vs=[.ref L.bk,.int n]∧zw A H L s∧Q (.bl (decide (n≤s.accounts))) H
theorem z6b (T:Txt K mg A):zG P w K mg base CX0 1 A.zLl A.ztl ["book","account"] (z9q A):=by
 have nN:=zMj.nd
 refine T.z8.F.ok zMj (fun vs H Q E h=>?_) (fun cdv B outer s H vs Q E hr h=>?_)
 ·obtain ⟨L,s,n,rfl,_⟩:=h
  rfl
 ·obtain ⟨L,s,n,rfl,B,k⟩:=h
  have hu:=zM hr
  refine ⟨_,(ze (zh (zLh zLg (pv 1) (zf (pv 0) rfl) (zE _)))),?_⟩
  obtain ⟨dx,hb⟩:=B.book
  exact ⟨_,rfl,_,rfl,L.bk,A.zg,dx,_,_,rfl,hb,T.zt,T.z4c,zOg _ _ _ _ _ _ _ _ _ _,_,_,rfl,rfl,k⟩
def zJs (A:Adr):Sp:=fun vs H Q _=>∃(L:Loc) (s:Sta) (n:Int),vs=[.ref L.bk,.int n]∧zw A H L s∧Q (.bl (decide (n≤s.devices.length))) H
theorem zEd (T:Txt K mg A):zG P w K mg base CX0 1 A.zpm A.z1l ["book","number"] (zJs A):=by
 have nN:=zml.nd
 refine T.zOb.F.ok zml (fun vs H Q E h=>?_) (fun cdv B outer s H vs Q E hr h=>?_)
 ·obtain ⟨L,s,n,rfl,_⟩:=h
  rfl
 ·obtain ⟨L,s,n,rfl,B,k⟩:=h
  have hu:=zM hr
  refine ⟨_,(ze (zh (zLh zLg (pv 1) (z5 zxb (by rfl) T.zAd PySem.boot_len (za (zf (pv 0) rfl) zb)) (zE _)))),?_⟩
  obtain ⟨dx,hb⟩:=B.book
  refine ⟨_,rfl,_,rfl,L.bk,A.zg,dx,_,_,rfl,hb,T.zt,T.zqc,z0e _ _ _ _ _ _ _ _ _ _,L.dl,_,rfl,.inl (SqL.of B.devs),_,_,rfl,rfl,?_⟩
  rw [List.length_map,zNb B.dev]
  exact k
def zbt (A:Adr):Sp:=fun vs H Q _=>∃(L:Loc) (s:Sta) (n:Int) (d:Nat) (a:Addr),vs=[.ref L.bk,.int n]∧n=d∧zw A H L s∧1≤d∧L.das[d - 1]?=some a∧Q (.ref a) H
theorem zWd (T:Txt K mg A):zG P w K mg base CX0 1 A.zCj A.zdj ["book","number"] (zbt A):=by
 have nN:=zlg.nd
 refine T.zFb.F.ok zlg (fun vs H Q E h=>?_) (fun cdv B outer s H vs Q E hr h=>?_)
 ·obtain ⟨L,s,n,d,a,rfl,_⟩:=h
  rfl
 ·obtain ⟨L,s,n,d,a,rfl,rfl,B,hd,ha,k⟩:=h
  have hu:=zM hr
  refine ⟨_,(ze (zh (zS zH (zf (pv 0) rfl) (zZ zod (pv 1) zm) (fun _ _=>rfl)))),?_⟩
  obtain ⟨dx,hb⟩:=B.book
  refine ⟨_,rfl,L.bk,A.zg,dx,_,_,rfl,hb,T.zt,T.zqc,z0e _ _ _ _ _ _ _ _ _ _,_,rfl,_,_,rfl,rfl,L.dl,_,_,_,rfl,rfl,SqL.of B.devs,at_of (j:=d - 1) (v:=.ref a) (by omega) (by rw [List.getElem?_map,ha];rfl),k⟩
theorem zCr {s:Sta} {d:Nat} {x:Dvc} (h1:1≤d) (h:s.devices[d - 1]?=some x):Vbemak.techOf s d=x.tech:=by
 unfold Vbemak.techOf Vbemak.device?
 rw [if_neg (by omega),h]
 rfl
theorem zjx {s:Sta} {d:Nat} (h:1≤d∧d≤s.devices.length):∃x,s.devices[d - 1]?=some x:=⟨_,List.getElem?_eq_getElem (show d - 1 < s.devices.length by omega)⟩
theorem zw.devAt {H:Hp} {L:Loc} {s:Sta} (B:zw A H L s) {d:Nat} {x:Dvc} (h:s.devices[d]?=some x):∃a,L.das[d]?=some a∧zxk A.zy H a x:=zse B.dev h
def z2i (A:Adr):Sp:=fun vs H Q _=>∃(L:Loc) (s:Sta) (a:Addr) (r:Rn),vs=[.ref L.bk,.ref a]∧zw A H L s∧zQb A.zo H a r∧(1≤r.device∧r.device≤s.devices.length)∧Q (.int (Vbemak.techOf s r.device:Nat)) H
theorem zEi (T:Txt K mg A):zG P w K mg base CX0 2 A.zak A.z1j ["book","run"] (z2i A):=by
 have zTb:=@zWd P w K mg base A T
 have nN:=zLi.nd
 refine T.ztc.F.ok zLi (fun vs H Q E h=>?_) (fun cdv B outer s H vs Q E hr h=>?_)
 ·obtain ⟨L,s,a,r,rfl,_⟩:=h
  rfl
 ·obtain ⟨L,s,a,r,rfl,B,⟨da,ta,ha,hta⟩,hd,k⟩:=h
  have hu:=zM hr
  refine ⟨_,(ze (zh (zf (zn zTb hr T.zFb (za (pv 0) (za (zf (pv 1) rfl) zb))) rfl))),?_⟩
  obtain ⟨x,hx⟩:=zjx hd
  obtain ⟨b,hb,db,hb1⟩:=B.devAt hx
  refine ⟨_,rfl,_,rfl,a,A.zo,da,_,_,rfl,ha,T.zJ,T.z0b,zLd _ _ _ _ _,L,s,_,r.device,b,rfl,rfl,B,hd.1,hb,b,A.zy,db,_,_,rfl,hb1,T.zbb,T.zZc,zUh _ _ _ _ _,?_⟩
  rw [zCr hd.1 hx] at k
  exact k
def zfn (s:Sta) (t:Option Nat) (r:Rn):Bool:=t.all fun t=>Vbemak.techOf s r.device==t
def zyp (A:Adr):Sp:=fun vs H Q _=>∃(L:Loc) (s:Sta) (l:Addr) (rs:List Rn) (z:Int),vs=[.ref L.bk,.ref l,.int z]∧-1≤z∧zw A H L s∧zU A.zo H l rs∧rs.length≤10000∧(∀r∈rs,1≤r.device∧r.device≤s.devices.length)∧
 ∀(H':Hp) (q:Addr),zU A.zo H' q (rs.filter (zfn s (Vbemak.techArg z)))→zB H H'→Q (.ref q) H'
theorem z0i (T:Txt K mg A):zG P w K mg base CX0 3 A.zTj A.zik ["book","runs","choice"] (zyp A):=by
 have zEg:=@zEi P w K mg base A T
 obtain ⟨z1z,zbq⟩:=T.zUi
 have nN:=zTi.nd
 refine T.z5b.F.ok zTi (fun vs H Q E h=>?_) (fun cdv B outer s H vs Q E hr h=>?_)
 ·obtain ⟨L,s,l,rs,z,rfl,_⟩:=h
  rfl
 ·obtain ⟨L,s,l,rs,z,rfl,hz,B,hl,hlen,hd,k⟩:=h
  have hu:=zM hr
  refine ⟨_,(zd (zI (zC zMb (pv 2) (zp (v:=.int (-1)) rfl zbq ⟨_,rfl⟩) (zE _)) (ze (zh (pv 1))) zx)
   (ze (zh (zxh (tt:=(z8k (tOp rEq (zEh (z2i A) [] E0 (zVd (zAb 0) (zVd (zAb 3) zjh))) (zAb 2)))) (te:=(zAb 3)) rfl nN (zYb (pv 1)) (z9c (own:=[("run",3)]) (by rfl)) (fun _ _ _ _ _=>(zrb (i:=3) nN rfl (Or.inl rfl))) (fun _ _ _ _ _=>(zJh (zC zMb (zn zEg hr T.ztc (za (pv 0) (za (pv 3) zb))) (pv 2) (zE _)))) (fun _ _ _ _ _=>(pv 3)))))),?_⟩
  refine ⟨_,rfl,rfl,_,rfl,?_⟩
  refine zmb (fun c=>?_) fun c=>?_
  ·have c:z=-1:=by simpa using of_decide_eq_true c
   subst c
   refine ⟨_,rfl,k H l ?_ (zB.refl _)⟩
   have e:rs.filter (zfn s (Vbemak.techArg (-1)))=rs:=List.filter_eq_self.mpr fun _ _=>rfl
   rw [e]
   exact hl
  ·have c:¬z=-1:=fun e=>c (decide_eq_true (congrArg V.int e))
   have ez:Vbemak.techArg z=some z.toNat:=if_neg (by omega)
   rw [ez] at k
   obtain ⟨as,hl1,hp⟩:=hl
   refine ⟨_,rfl,l,rfl,⟨_,SqL.of hl1⟩,fun D hD=>zUe (K:=K) (a:=l) (xs:=as.map V.ref) (fun i H'=>zB H H'∧zU A.zo H' D ((rs.take i).filter (zfn s (some z.toNat))))
    ⟨zq hD,[],zc,.nil⟩ (fun i H' _ ⟨s1,_⟩=>SqL.of (s1 _ _ hl1)) ?_ ?_⟩
   ·rintro i y H' hi ⟨s1,hD1⟩
    obtain ⟨a,ha,rfl⟩:=zCc hi
    obtain ⟨r,hri,hra⟩:=pat hp ha
    have hra:=zeb s1 hra
    refine ⟨rfl,?_⟩
    refine ⟨_,rfl,_,rfl,L,s,a,r,rfl,B.same s1,hra,hd r (List.mem_of_getElem? hri),_,rfl,rfl,_,rfl,?_⟩
    have et:decide (V.int (Vbemak.techOf s r.device:Nat)=V.int z)=zfn s (some z.toNat) r:=by
     show _=(Vbemak.techOf s r.device==z.toNat)
     rw [Bool.eq_iff_iff,decide_eq_true_eq,beq_iff_eq,V.int.injEq]
     omega
    rw [et]
    refine zmb (fun c=>?_) fun c=>?_
    ·refine ⟨_,rfl,?_⟩
     exact zRf hri hD s1 hD1 hra c hlen
    ·exact ⟨s1,zKf hri hD1 c⟩
   ·rintro H' ⟨s1,hD1⟩
    rw [List.length_map,zNb hp,List.take_length] at hD1
    exact k H' D hD1 s1
end
end Pv
namespace Pv
open PySem PySem.Spec PyProof.Rows L2
open Vbemak (Call)
theorem zX.ref {A:Adr} {H:Hp} {L:Loc} {s:Sta} {r:Sta×List Int} {Q:VK} {zs:List Int} (k:zX A H L r Q) (e:r=(s,zs)) (B:zw A H L s) {q:Addr} (hq:H q=Option.none):Q (.ref q) (upd H q (.lst (zs.map V.int))):=by
 subst e
 exact k _ L q (B.same (zq hq)) zc (Keeps.same (zq hq))
theorem zX.fin {A:Adr} {H H1:Hp} {L L':Loc} {s:Sta} {r:Sta×List Int} {Q:VK} {zs:List Int} (k:zX A H L r Q) (e:r=(s,zs)) (B:zw A H1 L' s) (kp:Keeps A L L' H H1) {q:Addr} (hq:H1 q=Option.none):Q (.ref q) (upd H1 q (.lst (zs.map V.int))):=by
 subst e
 have s1:zB H1 (upd H1 q (.lst (zs.map V.int))):=zq hq
 exact k _ L' q (B.same s1) zc ⟨kp.bk,fun b o e n=>s1 _ _ (kp.keep b o e n),kp.sub⟩
theorem z6 {s:Sta} {c:Call} {e:Int} (h:Vbemak.does s c=.error e):VM.zY s c=(s,[e]):=by
 unfold VM.zY
 rw [h]
theorem zIc {s t:Sta} {c:Call} {l:List Int} (h:Vbemak.does s c=.ok (t,l)):VM.zY s c=(t,0::l):=by
 unfold VM.zY
 rw [h]
theorem zw.fields {K:PySem.W.Frag} {mg:Str→Option Value} {A:Adr} {H H':Hp} {L:Loc} {s s':Sta} (T:Txt K mg A) (B:zw A H L s) (k:But L.bk H H')
  (hb:∃dx,H' L.bk=some (.ins A.zg dx (bf s'.opened s'.life s'.window s'.now s'.accounts L.dl L.td L.rl L.od s'.offered))) (hd:s'.devices=s.devices) (ht:s'.totals=s.totals) (hr:s'.runs=s.runs) (ho:s'.offers=s.offers):zw A H' L s':=by
 have o:=B.offsB T k
 have r:=B.runsB T k
 rw [←ho] at o
 rw [←hr] at r
 exact B.atBook T k hb hd ht r B.rne o
theorem zif (A:Adr) (L:Loc):L.bk∈L.own A:=List.mem_cons_self ..
theorem zbn {A:Adr} {L:Loc} {a:Addr} {i:Nat} (h:L.das[i]?=some a):a∈L.own A:=by
 unfold Loc.own
 exact List.mem_cons_of_mem _ (List.mem_cons_of_mem _ (List.mem_cons_of_mem _ (List.mem_cons_of_mem _ (List.mem_cons_of_mem _ (List.mem_cons_of_mem _ (List.mem_of_getElem? h))))))
theorem zKy (A:Adr) (L:Loc):L.dl∈L.own A:=List.mem_cons_of_mem _ (List.mem_cons_self ..)
theorem zty (A:Adr) (L:Loc):L.td∈L.own A:=List.mem_cons_of_mem _ (List.mem_cons_of_mem _ (List.mem_cons_self ..))
theorem z6t (A:Adr) (L:Loc):L.od∈L.own A:=List.mem_cons_of_mem _ (List.mem_cons_of_mem _ (List.mem_cons_of_mem _ (List.mem_cons_self ..)))
theorem z7o {α β:Type} {F G:α→β→Prop} {b:β}:∀{l:List α} {m:List β} {i:Nat} {a:α},Paired F l m→l.Nodup→l[i]?=some a→(∀x y,F x y→x≠a→G x y)→G a b→Paired G l (m.set i b)
 |_,_,i,a,.nil,_,h,_,_=>by simp at h
 |x::l,y::m,0,a,.cons r t,nd,h,f,g=>by
  have h:x=a:=Option.some.inj h
  subst h
  obtain ⟨n1,n2⟩:=List.nodup_cons.mp nd
  have all:∀{l:List α} {m:List β},Paired F l m→x∉l→Paired G l m:=by
   intro l m p
   induction p with
   |nil=>intro _;exact .nil
   |@cons u v us vs r _ ih=>
    intro hn
    exact .cons (f _ _ r fun e=>hn (e ▸ List.mem_cons_self ..)) (ih fun z=>hn (List.mem_cons_of_mem _ z))
  exact .cons g (all t n1)
 |x::l,y::m,i + 1,a,.cons r t,nd,h,f,g=>by
  obtain ⟨n1,n2⟩:=List.nodup_cons.mp nd
  have h:l[i]?=some a:=h
  refine .cons (f _ _ r fun e=>n1 (e ▸ List.mem_of_getElem? h)) (z7o t n2 h f g)
theorem zme {g:Dvc→Dvc}:∀{l:List Dvc} {i:Nat} {x:Dvc},l[i]?=some x→Vbemak.setDevice g i l=l.set i (g x)
 |[],i,x,h=>by simp at h
 |a::l,0,x,h=>by
  have h:a=x:=Option.some.inj h
  subst h
  rfl
 |a::l,i + 1,x,h=>by
  show a::Vbemak.setDevice g i l=a::l.set i (g x)
  rw [zme (l:=l) (i:=i) h]
theorem zw.atDev {K:PySem.W.Frag} {mg:Str→Option Value} {A:Adr} {H H':Hp} {L:Loc} {s:Sta} {i:Nat} {a:Addr} {x x':Dvc} (T:Txt K mg A) (B:zw A H L s) (ha:L.das[i]?=some a) (hx:s.devices[i]?=some x) (k:But a H H') (h':zxk A.zy H' a x'):
  zw A H' L { s with devices:=s.devices.set i x' }:=by
 obtain ⟨y,hy,dx,h⟩:=pat B.dev ha
 have w:=zGq (dx:=dx) (fs:=df y.owner y.tech y.issued y.withdrawn y.balance) T
 obtain ⟨db,hb⟩:=B.book
 exact {
  book:=⟨db,k _ _ hb (zP h hb (fun z=>by injection z with z;exact T.zZd z))⟩
  devs:=k _ _ B.devs (zP h B.devs (fun z=>nomatch z))
  dev:=z7o B.dev B.nd ha (fun _ _ ⟨du,q⟩ n=>⟨du,k _ _ q n⟩) h'
  nd:=B.nd
  tots:=by
   obtain ⟨kvs,h1,h2⟩:=B.tots
   exact ⟨kvs,k _ _ h1 (zP h h1 (fun z=>nomatch z)),h2⟩
  runs:=by
   obtain ⟨as,h1,h2⟩:=id B.runs
   exact zie k h w (zP h h1 (fun z=>nomatch z)) B.runs
  rne:=B.rne
  offs:=by
   obtain ⟨oas,h1,h2⟩:=B.offs
   exact ⟨oas,k _ _ h1 (zP h h1 (fun z=>nomatch z)),zGf k h w h2⟩
  t1:=zDd k h w B.t1
  t2:=zDd k h w B.t2 }
theorem z3d {s:Sta} {h:Nat} (h1:1≤h):Vbemak.isAccount s h=decide ((h:Int)≤s.accounts):=by
 unfold Vbemak.isAccount
 rw [decide_eq_true h1,Bool.true_and,Bool.eq_iff_iff,decide_eq_true_eq,decide_eq_true_eq]
 omega
theorem dev?_none {s:Sta} {d:Nat} (h:¬(d:Int)≤s.devices.length):Vbemak.device? s d=none:=by
 unfold Vbemak.device?
 rw [if_neg (by omega)]
 exact List.getElem?_eq_none (by omega)
theorem dev?_some {s:Sta} {d:Nat} (h1:1≤d) (h:(d:Int)≤s.devices.length):∃x,Vbemak.device? s d=some x∧s.devices[d - 1]?=some x:=by
 unfold Vbemak.device?
 rw [if_neg (by omega)]
 exact ⟨_,List.getElem?_eq_getElem (show d - 1 < s.devices.length by omega),List.getElem?_eq_getElem (show d - 1 < s.devices.length by omega)⟩
section
variable {P:Program} {w:World} {K:PySem.W.Frag} {mg:Str→Option Value} {base:Heap} {A:Adr}
def zww (A:Adr):Sp:=fun vs H Q _=>∃(L:Loc) (s:Sta) (x y:Int) (a b:Nat),vs=[.ref L.bk,.int x,.int y]∧x=a∧y=b∧zw A H L s∧zX A H L (VM.zY s (.opens a b)) Q
theorem zmw (T:Txt K mg A):zG P w K mg base CX0 1 A.zqr A.zPr ["book","life","window"] (zww A):=by
 obtain ⟨zib,zF⟩:=T.zfb
 obtain ⟨zRA,zvq⟩:=T.znk
 have nN:=zYp.nd
 refine T.zNe.F.ok zYp (fun vs H Q E h=>?_) (fun cdv B outer s H vs Q E hr h=>?_)
 ·obtain ⟨L,s,x,y,a,b,rfl,_⟩:=h
  rfl
 ·obtain ⟨L,s,x,y,a,b,rfl,rfl,rfl,B,k⟩:=h
  have hu:=zM hr
  refine ⟨_,(zd (zI (zyb (zf (pv 0) rfl)) (ze (zh (zA (za (zp (v:=.int (-3)) rfl zvq ⟨_,rfl⟩) zb)))) zx)
   (zd (zdb (pv 0) zYk rfl)
   (zd (zdb (pv 0) (pv 1) rfl)
   (zd (zdb (pv 0) (pv 2) rfl)
   (ze (zh (zA (za (zp (v:=.int (0)) rfl zF ⟨_,rfl⟩) zb)))))))),?_⟩
  obtain ⟨dx,hb⟩:=B.book
  refine ⟨_,rfl,L.bk,A.zg,dx,_,_,rfl,hb,T.zt,T.zre,z2r _ _ _ _ _ _ _ _ _ _,_,rfl,?_⟩
  refine zmb (fun c=>?_) fun c=>?_
  ·refine ⟨(by show 1≤sizeLine;decide),fun q hq=>?_⟩
   exact k.ref (zs:=[-3]) (z6 (if_pos c)) B hq
  ·refine ⟨_,rfl,L.bk,A.zg,dx,_,rfl,hb,T.zt,T.zre,zmf _ _ _ _ _ _ _ _ _ _,?_⟩
   refine ⟨_,rfl,_,rfl,L.bk,A.zg,dx,_,rfl,zc,T.zt,T.zrf,zmf true _ _ _ _ _ _ _ _ _,?_⟩
   refine ⟨_,rfl,_,rfl,L.bk,A.zg,dx,_,rfl,zc,T.zt,T.zuf,zmf true a _ _ _ _ _ _ _ _,?_⟩
   refine ⟨(by show 1≤sizeLine;decide),fun q hq=>?_⟩
   refine k.fin (s:={ s with opened:=true,life:=a,window:=b }) (L':=L) (zs:=[0]) (zIc (if_neg c)) ?_ ?_ hq
   ·have kb:But L.bk H (upd (upd (upd H L.bk (.ins A.zg dx (zr "opened" (.bl true) (bf s.opened s.life s.window s.now s.accounts L.dl L.td L.rl L.od s.offered)))) L.bk (.ins A.zg dx (zr "life" (.int a) (zr "opened" (.bl true) (bf s.opened s.life s.window s.now s.accounts L.dl L.td L.rl L.od s.offered)))))
      L.bk (.ins A.zg dx (zr "window" (.int b) (zr "life" (.int a) (zr "opened" (.bl true) (bf s.opened s.life s.window s.now s.accounts L.dl L.td L.rl L.od s.offered)))))):=(But.upd.trans But.upd).trans But.upd
    exact B.fields T kb ⟨dx,zc⟩ rfl rfl rfl rfl
   ·exact Keeps.but ((But.upd.trans But.upd).trans But.upd) (zif A L)
def zPq (A:Adr):Sp:=fun vs H Q _=>∃(L:Loc) (s:Sta),vs=[.ref L.bk]∧zw A H L s∧zX A H L (VM.zY s .account) Q
theorem zLq (T:Txt K mg A):zG P w K mg base CX0 1 A.zHl A.zal ["book"] (zPq A):=by
 obtain ⟨zib,zF⟩:=T.zfb
 obtain ⟨zei,zcd⟩:=T.zig
 obtain ⟨zcA,zjp⟩:=T.zVi
 have nN:=zkk.nd
 refine T.z6c.F.ok zkk (fun vs H Q E h=>?_) (fun cdv B outer s H vs Q E hr h=>?_)
 ·obtain ⟨L,s,rfl,_⟩:=h
  rfl
 ·obtain ⟨L,s,rfl,B,k⟩:=h
  have hu:=zM hr
  refine ⟨_,(zd (zI (zC zjn (zf (pv 0) rfl) (zp (v:=.int (32)) rfl zjp ⟨_,rfl⟩) (zE _)) (ze (zh (zA (za (zp (v:=.int (-4)) rfl zcd ⟨_,rfl⟩) zb)))) zx)
   (zd (zMf (pv 0) zm zXm)
   (ze (zh (zA (za (zp (v:=.int (0)) rfl zF ⟨_,rfl⟩) (za (zf (pv 0) rfl) zb))))))),?_⟩
  obtain ⟨dx,hb⟩:=B.book
  refine ⟨_,rfl,L.bk,A.zg,dx,_,_,rfl,hb,T.zt,T.z4c,zOg _ _ _ _ _ _ _ _ _ _,_,_,rfl,rfl,_,rfl,?_⟩
  refine zmb (fun c=>?_) fun c=>?_
  ·have c:(s.accounts:Int) ≥ 32:=of_decide_eq_true c
   refine ⟨(by show 1≤sizeLine;decide),fun q hq=>?_⟩
   exact k.ref (zs:=[-4]) (z6 (if_pos (show 32≤s.accounts by omega))) B hq
  ·have c:¬(s.accounts:Int) ≥ 32:=fun z=>c (decide_eq_true z)
   refine ⟨_,rfl,L.bk,A.zg,dx,_,_,rfl,hb,T.zt,T.z4c,zOg _ _ _ _ _ _ _ _ _ _,_,_,rfl,rfl,dx,_,hb,zmf _ _ _ _ _ _ _ _ _ _,?_⟩
   refine ⟨_,rfl,L.bk,A.zg,dx,_,_,rfl,zc,T.zt,T.z4c,zOg _ _ _ _ _ _ _ _ _ _,(by show 2≤sizeLine;decide),fun q hq=>?_⟩
   refine k.fin (s:={ s with accounts:=s.accounts + 1 }) (L':=L) (zs:=[0,Vbemak.nat (s.accounts + 1)]) (zIc (if_neg (show ¬32≤s.accounts by omega))) ?_ (Keeps.but But.upd (zif A L)) hq
   exact B.fields T But.upd ⟨dx,zc⟩ rfl rfl rfl rfl
def zns (A:Adr):Sp:=fun vs H Q _=>∃(L:Loc) (s:Sta) (x y:Int) (h t:Nat),vs=[.ref L.bk,.int x,.int y]∧x=h∧y=t∧1≤h∧zw A H L s∧zX A H L (VM.zY s (.device h t)) Q
theorem z7r (T:Txt K mg A):zG P w K mg base CX0 3 A.zVm A.zNm ["book","account","technique"] (zns A):=by
 have zW:=@z6b P w K mg base A T
 have zEs:=@zzq P w K mg base A T
 obtain ⟨zib,zF⟩:=T.zfb
 obtain ⟨zei,zcd⟩:=T.zig
 obtain ⟨zhA,zsq⟩:=T.zek
 obtain ⟨zXc,zgb⟩:=T.zbc
 have nN:=zil.nd
 refine T.ztd.F.ok zil (fun vs H Q E h=>?_) (fun cdv B outer s H vs Q E hr h=>?_)
 ·obtain ⟨L,s,x,y,h,t,rfl,_⟩:=h
  rfl
 ·obtain ⟨L,s,x,y,h,t,rfl,rfl,rfl,h1,B,k⟩:=h
  have hu:=zM hr
  refine ⟨_,(zd (zI (zDb (zyb (zn zW hr T.z8 (za (pv 0) (za (pv 1) zb))))) (ze (zh (zA (za (zp (v:=.int (-5)) rfl zgb ⟨_,rfl⟩) zb)))) zx)
   (zd (zI (zC zjn (z5 zxb (by rfl) T.zAd PySem.boot_len (za (zf (pv 0) rfl) zb)) (zp (v:=.int (16)) rfl zsq ⟨_,rfl⟩) (zE _)) (ze (zh (zA (za (zp (v:=.int (-4)) rfl zcd ⟨_,rfl⟩) zb)))) zx)
   (zd (z4b (z6f PySem.F.plainAttrs_list PySem.F.slot_list_append PySem.F.type_list_append zSf (zf (pv 0) rfl) (za (zYf T.zxr zEs (hr.mono (by decide)) rfl T.zvt T.zFl .nil zVe (za (pv 1) (za (pv 2) zb))) zb)))
   (ze (zh (zA (za (zp (v:=.int (0)) rfl zF ⟨_,rfl⟩) (za (z5 zxb (by rfl) T.zAd PySem.boot_len (za (zf (pv 0) rfl) zb)) zb)))))))),?_⟩
  obtain ⟨dx,hb⟩:=B.book
  refine ⟨_,rfl,_,rfl,L,s,_,rfl,B,_,rfl,?_⟩
  rw [←z3d h1]
  refine zmb (fun c=>?_) fun c=>?_
  ·have c:Vbemak.isAccount s h=false:=by simpa using c
   refine ⟨(by show 1≤sizeLine;decide),fun q hq=>?_⟩
   exact k.ref (zs:=[-5]) (z6 (if_pos c)) B hq
  ·have c:¬Vbemak.isAccount s h=false:=by simpa using c
   refine ⟨_,rfl,L.bk,A.zg,dx,_,_,rfl,hb,T.zt,T.zqc,z0e _ _ _ _ _ _ _ _ _ _,L.dl,_,rfl,.inl (SqL.of B.devs),_,_,rfl,rfl,_,rfl,?_⟩
   rw [List.length_map,zNb B.dev]
   refine zmb (fun c2=>?_) fun c2=>?_
   ·have c2:(s.devices.length:Int) ≥ 16:=of_decide_eq_true c2
    refine ⟨(by show 1≤sizeLine;decide),fun q hq=>?_⟩
    exact k.ref (zs:=[-4]) (z6 ((if_neg c).trans (if_pos (show 16≤s.devices.length by omega)))) B hq
   ·have c2:¬(s.devices.length:Int) ≥ 16:=fun z=>c2 (decide_eq_true z)
    refine ⟨_,rfl,L.bk,A.zg,dx,_,_,rfl,hb,T.zt,T.zqc,z0e _ _ _ _ _ _ _ _ _ _,.inl ⟨rfl,_,SqL.of B.devs⟩,_,rfl,_,rfl,?_⟩
    intro p dp np ndp nep
    refine ⟨p,dp,_,_,rfl,zc,fun H1 hp1 k1=>⟨rfl,?_⟩⟩
    have s1:zB H H1:=zld np ndp k1
    have B1:=B.same s1
    refine ⟨L.dl,_,_,rfl,rfl,B1.devs,?_,?_⟩
    ·rw [List.length_map,zNb B.dev]
     exact Nat.lt_of_le_of_lt (show s.devices.length≤16 by omega) (by decide)
    have npd:p≠L.dl:=zZb hp1 B1.devs (by intro z;cases z)
    have npl:p∉L.das:=fun z=>by
     obtain ⟨i,hi⟩:=List.getElem?_of_mem z
     obtain ⟨_,_,du,q⟩:=pat B.dev hi
     rw [np] at q
     cases q
    have kd:But L.dl H1 (upd H1 L.dl (.lst (L.das.map V.ref++[.ref p]))):=But.upd
    have w:=z5m (A:=A) (xs:=L.das.map V.ref)
    obtain ⟨db,hb1⟩:=B1.book
    have hbk:upd H1 L.dl (.lst (L.das.map V.ref++[.ref p])) L.bk=some (.ins A.zg db (bf s.opened s.life s.window s.now s.accounts L.dl L.td L.rl L.od s.offered)):=kd _ _ hb1 (zP B1.devs hb1 (fun z=>nomatch z))
    have B2:zw A (upd H1 L.dl (.lst (L.das.map V.ref++[.ref p]))) { L with das:=L.das++[p] } { s with devices:=s.devices++[{ owner:=h,tech:=t }] }:={
     book:=⟨db,hbk⟩
     devs:=by
      rw [zc,List.map_append]
      rfl
     dev:=Paired.snoc (zQh kd B1.devs (fun _ _ z=>nomatch z) B1.dev) ⟨dp,by rw [zi npd];exact hp1⟩
     nd:=by
      refine List.nodup_append.mpr ⟨B.nd,by simp,fun a ha b hb e=>?_⟩
      rw [List.mem_singleton.mp hb] at e
      exact npl (e ▸ ha)
     tots:=by
      obtain ⟨kvs,h1,h2⟩:=B1.tots
      exact ⟨kvs,kd _ _ h1 (zP B1.devs h1 (fun z=>nomatch z)),h2⟩
     runs:=zie kd B1.devs w B1.rne B1.runs
     rne:=B1.rne
     offs:=by
      obtain ⟨oas,h1,h2⟩:=B1.offs
      exact ⟨oas,kd _ _ h1 (zP B1.devs h1 (fun z=>nomatch z)),zGf kd B1.devs w h2⟩
     t1:=zDd kd B1.devs w B1.t1
     t2:=zDd kd B1.devs w B1.t2 }
    refine ⟨_,rfl,L.bk,A.zg,db,_,_,rfl,hbk,T.zt,T.zqc,z0e _ _ _ _ _ _ _ _ _ _,L.dl,_,rfl,.inl (SqL.of zc),(by show 2≤sizeLine;decide),fun q hq=>?_⟩
    have el:((L.das.map V.ref++[V.ref p]).length:Int)=((s.devices.length + 1:Nat):Int):=by
     rw [List.length_append,List.length_map,zNb B.dev]
     rfl
    rw [el]
    refine k.fin (zs:=[0,((s.devices.length + 1:Nat):Int)]) (zIc ((if_neg c).trans (if_neg (show ¬16≤s.devices.length by omega)))) B2 ⟨rfl,fun b o e n=>?_,fun b hbm=>?_⟩ hq
    ·have nb:b≠L.dl:=fun z=>n (by rw [z];exact zKy A L)
     rw [zi nb]
     exact s1 _ _ e
    ·unfold Loc.own at hbm ⊢
     simp only [List.mem_cons,List.mem_append,List.mem_singleton,List.not_mem_nil,or_false] at hbm ⊢
     rcases hbm with z|z|z|z|z|z|z|z
     ·exact .inl (.inl z)
     ·exact .inl (.inr (.inl z))
     ·exact .inl (.inr (.inr (.inl z)))
     ·exact .inl (.inr (.inr (.inr (.inl z))))
     ·exact .inl (.inr (.inr (.inr (.inr (.inl z)))))
     ·exact .inl (.inr (.inr (.inr (.inr (.inr (.inl z))))))
     ·exact .inl (.inr (.inr (.inr (.inr (.inr (.inr z))))))
     ·exact .inr (by rw [z];exact np)
def zzw (A:Adr):Sp:=fun vs H Q _=>∃(L:Loc) (s:Sta) (x y:Int) (d h:Nat),vs=[.ref L.bk,.int x,.int y]∧x=d∧y=h∧1≤d∧1≤h∧zw A H L s∧zX A H L (VM.zY s (.pass d h)) Q
theorem zkw (T:Txt K mg A):zG P w K mg base CX0 2 A.zJr A.zGr ["book","number","account"] (zzw A):=by
 have zTb:=@zWd P w K mg base A T
 have zW:=@z6b P w K mg base A T
 have z1b:=@zEd P w K mg base A T
 obtain ⟨zib,zF⟩:=T.zfb
 obtain ⟨zXc,zgb⟩:=T.zbc
 obtain ⟨zsf,zdc⟩:=T.zSd
 have nN:=zkp.nd
 refine T.zBe.F.ok zkp (fun vs H Q E h=>?_) (fun cdv B outer s H vs Q E hr h=>?_)
 ·obtain ⟨L,s,x,y,d,h,rfl,_⟩:=h
  rfl
 ·obtain ⟨L,s,x,y,d,h,rfl,rfl,rfl,d1,h1,B,k⟩:=h
  have hu:=zM hr
  refine ⟨_,(zd (zI (zDb (zyb (zn z1b hr T.zOb (za (pv 0) (za (pv 1) zb))))) (ze (zh (zA (za (zp (v:=.int (-6)) rfl zdc ⟨_,rfl⟩) zb)))) zx)
   (zd (zI (zDb (zyb (zn zW hr T.z8 (za (pv 0) (za (pv 2) zb))))) (ze (zh (zA (za (zp (v:=.int (-5)) rfl zgb ⟨_,rfl⟩) zb)))) zx)
   (zd (zK (i:=3) nN rfl (Or.inl rfl) (zn zTb hr T.zFb (za (pv 0) (za (pv 1) zb))))
   (zd (zdb (pv 3) (pv 2) rfl)
   (ze (zh (zA (za (zp (v:=.int (0)) rfl zF ⟨_,rfl⟩) zb)))))))),?_⟩
  obtain ⟨dx,hb⟩:=B.book
  refine ⟨_,rfl,_,rfl,L,s,_,rfl,B,_,rfl,?_⟩
  refine zmb (fun c=>?_) fun c=>?_
  ·have c:¬(d:Int)≤s.devices.length:=by simpa using c
   refine ⟨(by show 1≤sizeLine;decide),fun q hq=>?_⟩
   exact k.ref (zs:=[-6]) (z6 (if_pos (by rw [dev?_none c];rfl))) B hq
  ·have c:(d:Int)≤s.devices.length:=by simpa using c
   obtain ⟨x,e1,e2⟩:=dev?_some d1 c
   obtain ⟨a,ha,da,hda⟩:=B.devAt e2
   refine ⟨_,rfl,_,rfl,L,s,_,rfl,B,_,rfl,?_⟩
   rw [←z3d h1]
   refine zmb (fun c2=>?_) fun c2=>?_
   ·have c2:Vbemak.isAccount s h=false:=by simpa using c2
    refine ⟨(by show 1≤sizeLine;decide),fun q hq=>?_⟩
    exact k.ref (zs:=[-5]) (z6 ((if_neg (by rw [e1];exact Bool.false_ne_true)).trans (if_pos c2))) B hq
   ·have c2:¬Vbemak.isAccount s h=false:=by simpa using c2
    refine ⟨_,rfl,_,rfl,L,s,_,d,a,rfl,rfl,B,d1,ha,?_⟩
    refine ⟨_,rfl,_,rfl,a,A.zy,da,_,rfl,hda,T.zbb,T.zJc,zNj _ _ _ _ _,?_⟩
    refine ⟨(by show 1≤sizeLine;decide),fun q hq=>?_⟩
    refine k.fin (s:=Vbemak.changedDevice s d fun x=>{ x with owner:=h }) (L':=L) (zs:=[0]) (zIc ((if_neg (by rw [e1];exact Bool.false_ne_true)).trans (if_neg c2))) ?_ (Keeps.but But.upd (zbn ha)) hq
    have:=B.atDev (x':={ x with owner:=h }) T ha e2 But.upd (⟨da,zc⟩:zxk A.zy (upd H a (.ins A.zy da (zr "owner" (.int h) (df x.owner x.tech x.issued x.withdrawn x.balance)))) a { x with owner:=h })
    unfold Vbemak.changedDevice
    rw [zme e2]
    exact this
end
end Pv
namespace Pv
open PySem PySem.Spec PyProof.Rows L2
section
variable {κ:Type} [DecidableEq κ]
theorem zPh:∀{kvs:List (κ×V)} {k:κ} {v:V},(kvs.map (·.1)).Nodup→(k,v)∈kvs→zLb kvs k=some v
 |p::r,k,v,nd,h=>by
  have nd:(p.1::r.map (·.1)).Nodup:=nd
  obtain ⟨n1,n2⟩:=List.nodup_cons.mp nd
  rcases List.mem_cons.mp h with e|h
  ·subst e
   exact zRe rfl
  ·have:¬p.1=k:=fun e=>n1 (List.mem_map.mpr ⟨_,h,e.symm⟩)
   exact (zud this).trans (zPh n2 h)
theorem zUq:∀{kvs:List (κ×V)} {k:κ} {v:V},zLb kvs k=some v→(k,v)∈kvs
 |[],k,v,h=>by cases h
 |p::r,k,v,h=>by
  by_cases e:p.1=k
  ·rw [zRe e] at h
   have h:=Option.some.inj h
   subst e h
   exact List.mem_cons_self ..
  ·rw [zud e] at h
   exact List.mem_cons_of_mem _ (zUq h)
theorem zxy {kvs kvs':List (κ×V)} (p:kvs.Perm kvs') (nd:(kvs'.map (·.1)).Nodup) (k:κ):zLb kvs k=zLb kvs' k:=by
 have nd':(kvs.map (·.1)).Nodup:=(p.map _).nodup_iff.mpr nd
 cases e:zLb kvs' k with
 |some v=>exact zPh nd' (p.mem_iff.mpr (zUq e))
 |none=>
  cases e2:zLb kvs k with
  |none=>rfl
  |some v=>
   have:=zPh nd (p.mem_iff.mp (zUq e2))
   rw [e] at this
   cases this
theorem zly:∀{kvs:List (κ×V)} {k:κ} (v:V),(kvs.map (·.1)).Nodup→(putK kvs k v).Perm ((k,v)::kvs.filter fun p=>!decide (p.1=k)):=fun {kvs k} v nd=>by
 unfold putK
 by_cases c:(kvs.any fun kv=>decide (kv.1=k))=true
 ·rw [if_pos c]
  have all:∀{l:List (κ×V)},(l.map (·.1)).Nodup→(l.any fun kv=>decide (kv.1=k))=true→(l.map fun kv=>if kv.1=k then (kv.1,v) else kv).Perm ((k,v)::l.filter fun p=>!decide (p.1=k)):=by
   intro l
   induction l with
   |nil=>intro _ h;cases h
   |cons p r ih=>
    intro nd h
    have nd:(p.1::r.map (·.1)).Nodup:=nd
    obtain ⟨n1,n2⟩:=List.nodup_cons.mp nd
    rw [List.map_cons]
    by_cases e:p.1=k
    ·rw [if_pos e,List.filter_cons_of_neg (by rw [decide_eq_true e];decide),e]
     have e1:(r.map fun kv=>if kv.1=k then (kv.1,v) else kv)=r:=by
      rw [List.map_congr_left (g:=id),List.map_id]
      intro x hx
      rw [if_neg]
      ·rfl
      ·intro z
       exact n1 (List.mem_map.mpr ⟨x,hx,z.trans e.symm⟩)
     have e2:(r.filter fun p=>!decide (p.1=k))=r:=List.filter_eq_self.mpr fun x hx=>by
      rw [decide_eq_false]
      ·rfl
      ·intro z
       exact n1 (List.mem_map.mpr ⟨x,hx,z.trans e.symm⟩)
     rw [e1,e2]
    ·rw [if_neg e,List.filter_cons_of_pos (by rw [decide_eq_false e];rfl)]
     rw [List.any_cons,decide_eq_false e,Bool.false_or] at h
     exact ((ih n2 h).cons p).trans (List.Perm.swap ..)
  exact all nd c
 ·rw [if_neg c]
  have e:(kvs.filter fun p=>!decide (p.1=k))=kvs:=List.filter_eq_self.mpr fun x hx=>by
   cases z:decide (x.1=k) with
   |false=>rfl
   |true=>exact absurd (List.any_eq_true.mpr ⟨x,hx,z⟩) c
  rw [e]
  exact List.perm_append_comm
end
abbrev zke (d m:Nat):List Key:=[Sum.inl (d:Int),Sum.inl (m:Int)]
theorem zOo {d m d' m':Nat} (h:zke d m=zke d' m'):d=d'∧m=m':=by
 injection h with h1 h2
 injection h2 with h2
 injection h1 with h1
 injection h2 with h2
 omega
theorem zmn:∀{l:List Vbemak.Total},l.Pairwise VM.TLt→((l.map tkv).map (·.1)).Nodup
 |[],_=>List.nodup_nil
 |t::l,h=>by
  obtain ⟨h1,h2⟩:=List.pairwise_cons.mp h
  show ((tkv t).1::(l.map tkv).map (·.1)).Nodup
  refine List.nodup_cons.mpr ⟨fun m=>?_,zmn h2⟩
  obtain ⟨p,hp,e⟩:=List.mem_map.mp m
  obtain ⟨u,hu,rfl⟩:=List.mem_map.mp hp
  have:=zOo e
  have h3:=h1 u hu
  unfold VM.TLt at h3
  omega
theorem z6s (d m:Nat):∀l:List Vbemak.Total,zLb (l.map tkv) (zke d m)=(l.find? fun t=>t.device==d&&t.month==m).map fun t=>V.int t.total
 |[]=>rfl
 |t::l=>by
  rw [List.map_cons]
  by_cases e:t.device=d∧t.month=m
  ·obtain ⟨rfl,rfl⟩:=e
   rw [zRe (by rfl),List.find?_cons_of_pos (by simp)]
   rfl
  ·rw [zud (fun z=>e (zOo z)),List.find?_cons_of_neg (by simpa using e),z6s d m l]
structure zCe (kvs:List (List Key×V)) (l:List Vbemak.Total):Prop where
 perm:kvs.Perm (l.map tkv)
 ord:l.Pairwise VM.TLt
section
variable {kvs:List (List Key×V)} {l:List Vbemak.Total}
theorem zCe.val (R:zCe kvs l) (d m:Nat):zLb kvs (zke d m)=(l.find? fun t=>t.device==d&&t.month==m).map fun t=>V.int t.total:=(zxy R.perm (zmn R.ord) _).trans (z6s d m l)
theorem zCe.has (R:zCe kvs l) (d m:Nat):(zLb kvs (zke d m)).isSome=l.any fun t=>t.device==d&&t.month==m:=by
 rw [R.val,Option.isSome_map,Bool.eq_iff_iff,List.find?_isSome,List.any_eq_true]
theorem zCe.get (R:zCe kvs l) (d m:Nat) (s:Sta) (h:s.totals=l):(zLb kvs (zke d m)).getD (.int 0)=.int (Vbemak.totalOf s d m):=by
 rw [R.val]
 unfold Vbemak.totalOf
 rw [h]
 cases l.find? fun t=>t.device==d&&t.month==m<;>rfl
theorem zCe.len (R:zCe kvs l):kvs.length=l.length:=by rw [R.perm.length_eq,List.length_map]
theorem zCe.put (R:zCe kvs l) (d m:Nat) (z:Int):(putK kvs (zke d m) (.int z)).Perm ((Vbemak.putTotal ⟨d,m,z⟩ l).map tkv):=by
 have nd:=(R.perm.map (·.1)).nodup_iff.mpr (zmn R.ord)
 refine (zly (V.int z) nd).trans ?_
 refine List.Perm.trans ?_ ((VM.z5g (x:=⟨d,m,z⟩) R.ord).map tkv).symm
 rw [List.map_cons]
 refine List.Perm.cons _ ?_
 refine (R.perm.filter _).trans ?_
 rw [List.filter_map]
 have e:(l.filter ((fun p=>!decide (p.1=zke d m)) ∘ tkv))=l.filter fun t=>!VM.sameKey ⟨d,m,z⟩ t:=List.filter_congr fun t _=>by
  show (!decide (zke t.device t.month=zke d m))=!VM.sameKey ⟨d,m,z⟩ t
  congr 1
  rw [Bool.eq_iff_iff,decide_eq_true_eq,VM.znf]
  constructor
  ·exact fun h=>zOo h
  ·rintro ⟨h1,h2⟩
   rw [h1,h2]
 rw [e]
end
end Pv
namespace Pv
open PySem PySem.Spec PyProof.Rows L2
open Vbemak (Call)
theorem zw.totsR {A:Adr} {H:Hp} {L:Loc} {s:Sta} (B:zw A H L s) (I:VM.SInv s):∃kvs,H L.td=some (.dT kvs)∧zCe kvs s.totals:=let ⟨kvs,h1,h2⟩:=B.tots;⟨kvs,h1,h2,I.tots⟩
theorem zw.atTots {K:PySem.W.Frag} {mg:Str→Option Value} {A:Adr} {H H':Hp} {L:Loc} {s:Sta} {l:List Vbemak.Total} {kvs kvs':List (List Key×V)} (T:Txt K mg A) (B:zw A H L s) (h:H L.td=some (.dT kvs)) (k:But L.td H H') (h':H' L.td=some (.dT kvs')) (p:kvs'.Perm (l.map tkv)):
  zw A H' L { s with totals:=l }:=by
 have w:=zHB (A:=A) (xs:=kvs)
 obtain ⟨db,hb⟩:=B.book
 exact {
  book:=⟨db,k _ _ hb (zP h hb (fun z=>nomatch z))⟩
  devs:=k _ _ B.devs (zP h B.devs (fun z=>nomatch z))
  dev:=zQh k h (fun _ _ z=>nomatch z) B.dev
  nd:=B.nd
  tots:=⟨kvs',h',p⟩
  runs:=by
   obtain ⟨as,h1,h2⟩:=id B.runs
   exact zie k h w (zP h h1 (fun z=>nomatch z)) B.runs
  rne:=B.rne
  offs:=by
   obtain ⟨oas,h1,h2⟩:=B.offs
   exact ⟨oas,k _ _ h1 (zP h h1 (fun z=>nomatch z)),zGf k h w h2⟩
  t1:=zDd k h w B.t1
  t2:=zDd k h w B.t2 }
theorem zyz {c1 c2:Bool} {A B X:Prop} (hx:(if c2=true then A else B)→X) (h1:(c1&&c2)=true→A) (h2:(c1&&c2)=false→B):if c1=true then X else (if false=true then A else B):=by
 cases c1 with
 |true=>
  rw [if_pos rfl]
  refine hx ?_
  cases c2 with
  |true=>rw [if_pos rfl];exact h1 rfl
  |false=>rw [if_neg (by decide)];exact h2 rfl
 |false=>
  rw [if_neg (by decide),if_neg (by decide)]
  exact h2 rfl
theorem or3 {c1 c2:Bool} {A B X:Prop} (hx:(if c2=true then A else B)→X) (h1:(c1||c2)=true→A) (h2:(c1||c2)=false→B):if c1=true then (if true=true then A else B) else X:=by
 cases c1 with
 |true=>
  rw [if_pos rfl,if_pos rfl]
  exact h1 rfl
 |false=>
  rw [if_neg (by decide)]
  refine hx ?_
  cases c2 with
  |true=>rw [if_pos rfl];exact h1 rfl
  |false=>rw [if_neg (by decide)];exact h2 rfl
section
variable {P:Program} {w:World} {K:PySem.W.Frag} {mg:Str→Option Value} {base:Heap} {A:Adr}
def ziz (A:Adr):Sp:=fun vs H Q _=>∃(L:Loc) (s:Sta) (x y z:Int) (d m:Nat),vs=[.ref L.bk,.int x,.int y,.int z]∧x=d∧y=m∧1≤d∧zw A H L s∧VM.SInv s∧zX A H L (VM.zY s (.meter d m z)) Q
theorem zOz (T:Txt K mg A):zG P w K mg base CX0 2 A.zhv A.zJv ["book","number","month","total"] (ziz A):=by
 have zTb:=@zWd P w K mg base A T
 have z1b:=@zEd P w K mg base A T
 obtain ⟨zib,zF⟩:=T.zfb
 obtain ⟨zei,zcd⟩:=T.zig
 obtain ⟨z7A,zjs⟩:=T.zCl
 obtain ⟨zsf,zdc⟩:=T.zSd
 obtain ⟨zul,zqe⟩:=T.zxf
 have nN:=zyt.nd
 refine T.zpg.F.ok zyt (fun vs H Q E h=>?_) (fun cdv B outer s H vs Q E hr h=>?_)
 ·obtain ⟨L,s,x,y,z,d,m,rfl,_⟩:=h
  rfl
 ·obtain ⟨L,s,x,y,z,d,m,rfl,rfl,rfl,d1,B,I,k⟩:=h
  have hu:=zM hr
  refine ⟨_,(zd (zI (zDb (zyb (zn z1b hr T.zOb (za (pv 0) (za (pv 1) zb))))) (ze (zh (zA (za (zp (v:=.int (-6)) rfl zdc ⟨_,rfl⟩) zb)))) zx)
   (zd (zI (PW.pt (zBh (zC zGh (pv 2) (zf (pv 0) rfl) (zE _)) (z3f (zC zgn (zZ zdd (pv 2) (zf (pv 0) rfl)) (zf (pv 0) rfl) (zE _))))) (ze (zh (zA (za (zp (v:=.int (-9)) rfl zqe ⟨_,rfl⟩) zb)))) zx)
   (zd (zK (i:=4) nN rfl (Or.inl rfl) (zjf (za (pv 1) (za (pv 2) zb))))
   (zd (zI (PW.pt (z7p (zcp (zqm hu (pv 4) (zf (pv 0) rfl))) (zon (zC zjn (z5 zwy (by rfl) T.zAd PySem.boot_len (za (zf (pv 0) rfl) zb)) (zp (v:=.int (256)) rfl zjs ⟨_,rfl⟩) (zE _))))) (ze (zh (zA (za (zp (v:=.int (-4)) rfl zcd ⟨_,rfl⟩) zb)))) zx)
   (zd (zK (i:=5) nN rfl (Or.inl rfl) (zn zTb hr T.zFb (za (pv 0) (za (pv 1) zb))))
   (zd (zMf (pv 5) (zZ zod (pv 3) (z3s hu (zf (pv 0) rfl) (pv 4) zm ⟨rfl,rfl,rfl,rfl⟩)) zXm)
   (zd (zYq hu (zf (pv 0) rfl) (pv 4) (pv 3) rfl)
   (ze (zh (zA (za (zp (v:=.int (0)) rfl zF ⟨_,rfl⟩) (za (zf (pv 5) rfl) zb)))))))))))),?_⟩
  obtain ⟨dx,hb⟩:=B.book
  refine ⟨_,rfl,_,rfl,L,s,_,rfl,B,_,rfl,?_⟩
  refine zmb (fun c=>?_) fun c=>?_
  ·have c:¬(d:Int)≤s.devices.length:=by simpa using c
   refine ⟨(by show 1≤sizeLine;decide),fun q hq=>?_⟩
   exact k.ref (zs:=[-6]) (z6 (by simp only [Vbemak.does,dev?_none c])) B hq
  have c:(d:Int)≤s.devices.length:=by simpa using c
  obtain ⟨x,e1,e2⟩:=dev?_some d1 c
  obtain ⟨a,ha,da,hda⟩:=B.devAt e2
  have ed:Vbemak.does s (.meter d m z)=if s.now < m∨m + s.window < s.now then .error (-9)
   else if Vbemak.TOTALS≤s.totals.length∧(s.totals.any fun t=>t.device==d&&t.month==m)=false then .error (-4)
   else .ok ({ Vbemak.changedDevice s d (fun x_1=>{ x_1 with balance:=x.balance + (z - Vbemak.totalOf s d m) }) with totals:=Vbemak.putTotal ⟨d,m,z⟩ s.totals },[x.balance + (z - Vbemak.totalOf s d m)]):=by
   simp only [Vbemak.does,e1]
  refine ⟨_,rfl,_,rfl,L.bk,A.zg,dx,_,_,rfl,hb,T.zt,T.zgd,zPj _ _ _ _ _ _ _ _ _ _,_,_,rfl,rfl,_,rfl,?_⟩
  refine or3 (c2:=decide ((m:Int) + s.window < s.now)) (fun h=>⟨_,rfl,_,rfl,L.bk,A.zg,dx,_,_,rfl,hb,T.zt,T.zuf,zZx _ _ _ _ _ _ _ _ _ _,_,_,rfl,rfl,_,rfl,L.bk,A.zg,dx,_,_,rfl,hb,T.zt,T.zgd,zPj _ _ _ _ _ _ _ _ _ _,_,_,rfl,rfl,_,rfl,h⟩) (fun c1=>?_) fun c1=>?_
  ·rw [Bool.or_eq_true,decide_eq_true_eq,decide_eq_true_eq] at c1
   refine ⟨(by show 1≤sizeLine;decide),fun q hq=>?_⟩
   exact k.ref (zs:=[-9]) (z6 (ed.trans (if_pos (by omega)))) B hq
  rw [Bool.or_eq_false_iff,decide_eq_false_iff_not,decide_eq_false_iff_not] at c1
  rw [if_neg (by omega)] at ed
  refine ⟨_,rfl,_,rfl,(by show 2≤sizeLine;decide),fun u hu=>?_⟩
  have s1:zB H (upd H u (.tup [.int d,.int m])):=zq hu
  have B1:=B.same s1
  obtain ⟨kvs,htd,R⟩:=B1.totsR I
  obtain ⟨db,hb1⟩:=B1.book
  have hu1:upd H u (.tup [.int d,.int m]) u=some (.tup ((zke d m).map kV)):=zc
  refine ⟨_,rfl,_,rfl,L.bk,A.zg,db,_,_,rfl,hb1,T.zt,T.zfc,zPe _ _ _ _ _ _ _ _ _ _,L.td,_,rfl,zpd.t (k:=zke d m) htd hu1,_,rfl,?_⟩
  rw [R.has]
  refine zyz (c2:=decide ((kvs.length:Int) ≥ 256)) (fun h=>⟨_,rfl,L.bk,A.zg,db,_,_,rfl,hb1,T.zt,T.zfc,zPe _ _ _ _ _ _ _ _ _ _,L.td,kvs,rfl,htd,_,_,rfl,rfl,_,rfl,h⟩) (fun c2=>?_) fun c2=>?_
  ·rw [Bool.and_eq_true,decide_eq_true_eq,R.len] at c2
   refine ⟨(by show 1≤sizeLine;decide),fun q hq=>?_⟩
   refine k.fin (L':=L) (zs:=[-4]) (z6 (ed.trans (if_pos ⟨show 256≤s.totals.length by omega,by simpa using c2.1⟩))) B1 (Keeps.same s1) hq
  have c2:¬(Vbemak.TOTALS≤s.totals.length∧(s.totals.any fun t=>t.device==d&&t.month==m)=false):=by
   rintro ⟨z1,z2⟩
   rw [z2,R.len] at c2
   have z1:256≤s.totals.length:=z1
   rw [decide_eq_true (show (s.totals.length:Int) ≥ 256 by omega)] at c2
   cases c2
  rw [if_neg c2] at ed
  refine ⟨_,rfl,_,rfl,L,s,_,d,a,rfl,rfl,B1,d1,ha,?_⟩
  have hda1:=s1 _ _ hda
  refine ⟨_,rfl,a,A.zy,da,_,_,rfl,hda1,T.zbb,T.zKb,z4d _ _ _ _ _,_,rfl,_,rfl,L.bk,A.zg,db,_,_,rfl,hb1,T.zt,T.zfc,zPe _ _ _ _ _ _ _ _ _ _,L.td,rfl,.inr ⟨_,.inl htd⟩,_,rfl,_,zpd.t (k:=zke d m) htd hu1,_,_,rfl,R.get d m s rfl,_,_,rfl,rfl,da,_,hda1,zNj _ _ _ _ _,?_⟩
  have ka:But a (upd H u (.tup [.int d,.int m])) (upd (upd H u (.tup [.int d,.int m])) a (.ins A.zy da (zr "balance" (.int (x.balance + (z - Vbemak.totalOf s d m))) (df x.owner x.tech x.issued x.withdrawn x.balance)))):=But.upd
  have B2:=B1.atDev (x':={ x with balance:=x.balance + (z - Vbemak.totalOf s d m) }) T ha e2 ka ⟨da,zc⟩
  obtain ⟨dc,hb2⟩:=B2.book
  have htd2:=ka _ _ htd (zP hda1 htd (fun z=>nomatch z))
  have hu2:=ka _ _ hu1 (zP hda1 hu1 (fun z=>nomatch z))
  refine ⟨_,rfl,_,rfl,L.bk,A.zg,dc,_,_,rfl,hb2,T.zt,T.zfc,zPe _ _ _ _ _ _ _ _ _ _,_,rfl,L.td,_,rfl,zRk.t (k:=zke d m) htd2 hu2 ?_,?_⟩
  ·rw [R.len]
   exact Nat.lt_of_le_of_lt I.ntot (by decide)
  have kt:But L.td (upd (upd H u (.tup [.int d,.int m])) a (.ins A.zy da (zr "balance" (.int (x.balance + (z - Vbemak.totalOf s d m))) (df x.owner x.tech x.issued x.withdrawn x.balance)))) (upd (upd (upd H u (.tup [.int d,.int m])) a (.ins A.zy da (zr "balance" (.int (x.balance + (z - Vbemak.totalOf s d m))) (df x.owner x.tech x.issued x.withdrawn x.balance)))) L.td (.dT (putK kvs (zke d m) (.int z)))):=But.upd
  have B3:=B2.atTots T htd2 kt zc (R.put d m z)
  have hd3:=kt _ _ (show upd (upd H u (.tup [.int d,.int m])) a (.ins A.zy da (zr "balance" (.int (x.balance + (z - Vbemak.totalOf s d m))) (df x.owner x.tech x.issued x.withdrawn x.balance))) a=_ from zc) (zP htd2 zc (fun z=>nomatch z))
  refine ⟨_,rfl,a,A.zy,da,_,_,rfl,hd3,T.zbb,T.zKb,z4d _ _ _ _ _,(by show 2≤sizeLine;decide),fun q hq=>?_⟩
  refine k.fin (L':=L) (zs:=[0,x.balance + (z - Vbemak.totalOf s d m)]) (zIc ed) ?_ ⟨rfl,fun b o e n=>?_,fun b h=>.inl h⟩ hq
  ·unfold Vbemak.changedDevice
   rw [zme e2]
   exact B3
  ·refine kt _ _ (ka _ _ (s1 _ _ e) fun z=>n ?_) fun z=>n ?_
   ·rw [z]
    exact zbn ha
   ·rw [z]
    exact zty A L
def zdk (A:Adr):Sp:=fun vs H Q _=>∃z:Int,vs=[.int z]∧Q (.int ((z / 1000).toNat:Nat)) H
theorem z0j (T:Txt K mg A):zG P w K mg base CX0 1 A.z8f A.zcg ["balance"] (zdk A):=by
 obtain ⟨zmi,z0c⟩:=T.zTe
 have nN:=zXf.nd
 refine T.zJb.F.ok zXf (fun vs H Q E h=>?_) (fun cdv B outer s H vs Q E hr h=>?_)
 ·obtain ⟨z,rfl,_⟩:=h
  rfl
 ·obtain ⟨z,rfl,k⟩:=h
  have hu:=zM hr
  refine ⟨_,(ze (zh (zZ zgA (z5 (zPf rfl) (by rfl) T.zXk (by rfl) (za (pv 0) (za zm zb))) (zp (v:=.int (1000)) rfl z0c ⟨_,rfl⟩)))),?_⟩
  refine ⟨_,rfl,_,_,rfl,⟨_,_,rfl,rfl,⟨by decide,by decide⟩,?_⟩⟩
  have e:(if (0:Int) > z then (0:Int) else z) / 1000=((z / 1000).toNat:Nat):=by
   by_cases h:(0:Int) > z
   ·rw [if_pos h]
    omega
   ·rw [if_neg h]
    omega
  show Q (.int ((if (0:Int) > z then (0:Int) else z) / 1000)) H
  rw [e]
  exact k
def zPy (A:Adr):Sp:=fun vs H Q _=>∃(L:Loc) (s:Sta) (x y:Int) (d m:Nat),vs=[.ref L.bk,.int x,.int y]∧x=d∧y=m∧1≤d∧zw A H L s∧VM.SInv s∧zX A H L (VM.zY s (.issue d m)) Q
theorem z5k {s:Sta} (I:VM.SInv s):zMh s.runs=s.given:=by
 have t:=I.tiles
 unfold zMh
 rcases List.eq_nil_or_concat s.runs with e|⟨l,r,e⟩
 ·rw [e] at t ⊢
  have t:s.given + 1=1:=t
  show (0:Int)=s.given
  omega
 ·rw [e,List.concat_eq_append] at t ⊢
  obtain ⟨b,h1,h2⟩:=VM.zD.split t
  have h3:s.given + 1=r.last + 1:=h2.2.2
  rw [List.getLast?_append]
  show (r.last:Int)=s.given
  omega
theorem zGz (T:Txt K mg A):zG P w K mg base CX0 5 A.zwv A.zkv ["book","number","month"] (zPy A):=by
 have zTb:=@zWd P w K mg base A T
 have z1b:=@zEd P w K mg base A T
 have zsc:=@z6d P w K mg base A T
 have zKd:=@zDf P w K mg base A T
 have zOk:=@z0j P w K mg base A T
 have zTw:=@zYu P w K mg base A T
 have z7w:=@zBj P w K mg base A T
 obtain ⟨zib,zF⟩:=T.zfb
 obtain ⟨zei,zcd⟩:=T.zig
 obtain ⟨zIA,z4q⟩:=T.zOj
 obtain ⟨zdv,zyj⟩:=T.zoj
 obtain ⟨zsf,zdc⟩:=T.zSd
 obtain ⟨zmi,z0c⟩:=T.zTe
 obtain ⟨zul,zqe⟩:=T.zxf
 have nN:=z2t.nd
 refine T.zqg.F.ok z2t (fun vs H Q E h=>?_) (fun cdv B outer s H vs Q E hr h=>?_)
 ·obtain ⟨L,s,x,y,d,m,rfl,_⟩:=h
  rfl
 ·obtain ⟨L,s,x,y,d,m,rfl,rfl,rfl,d1,B,I,k⟩:=h
  have hu:=zM hr
  refine ⟨_,(zd (zI (zDb (zyb (zn z1b hr T.zOb (za (pv 0) (za (pv 1) zb))))) (ze (zh (zA (za (zp (v:=.int (-6)) rfl zdc ⟨_,rfl⟩) zb)))) zx)
   (zd (zI (PW.pt (zBh (zC zGh (pv 2) (zf (pv 0) rfl) (zE _)) (z3f (zC zLg (zZ zdd (pv 2) (zf (pv 0) rfl)) (zf (pv 0) rfl) (zE _))))) (ze (zh (zA (za (zp (v:=.int (-9)) rfl zqe ⟨_,rfl⟩) zb)))) zx)
   (zd (zK (i:=3) nN rfl (Or.inl rfl) (zn zTb hr T.zFb (za (pv 0) (za (pv 1) zb))))
   (zd (zK (i:=4) nN rfl (Or.inl rfl) (zn zOk hr T.zJb (za (zf (pv 3) rfl) zb)))
   (zd (zI (zC zMb (pv 4) zm (zE _)) (ze (zh (zA (za (zp (v:=.int (0)) rfl zF ⟨_,rfl⟩) (za zm (za zm zb)))))) zx)
   (zd (zK (i:=5) nN rfl (Or.inl rfl) (zZ zdd (zn zKd hr T.zVb (za (zf (pv 0) rfl) zb)) zm))
   (zd (zK (i:=6) nN rfl (Or.inl rfl) (zZ zod (zZ zdd (pv 5) (pv 4)) zm))
   (zd (zK (i:=7) nN rfl (Or.inl rfl) (zn zTw hr T.zje (za (zf (pv 0) rfl) (za (zYf T.zpp z7w (hr.mono (by decide)) rfl T.zNs T.zAh .nil zVe (za (pv 5) (za (pv 6) (za (pv 1) (za (pv 2) (za (zn zsc hr T.zoc (za (zf (pv 3) rfl) zb)) zb)))))) zb))))
   (zd (zI (PW.pt (zBh (zC zGh (pv 6) (zp (v:=.int (1000000000)) rfl z4q ⟨_,rfl⟩) (zE _)) (z3f (zC zGh (z5 zxb (by rfl) T.zAd PySem.boot_len (za (pv 7) zb)) (zp (v:=.int (256)) rfl zyj ⟨_,rfl⟩) (zE _))))) (ze (zh (zA (za (zp (v:=.int (-4)) rfl zcd ⟨_,rfl⟩) zb)))) zx)
   (zd (zdb (pv 0) (pv 7) rfl)
   (zd (zMf (pv 3) (zZ zXg (zp (v:=.int (1000)) rfl z0c ⟨_,rfl⟩) (pv 4)) zdB)
   (zd (zMf (pv 3) (pv 4) zXm)
   (ze (zh (zA (za (zp (v:=.int (0)) rfl zF ⟨_,rfl⟩) (za (pv 4) (za (pv 5) zb)))))))))))))))))),?_⟩
  obtain ⟨dx,hb⟩:=B.book
  refine ⟨_,rfl,_,rfl,L,s,_,rfl,B,_,rfl,?_⟩
  refine zmb (fun c=>?_) fun c=>?_
  ·have c:¬(d:Int)≤s.devices.length:=by simpa using c
   refine ⟨(by show 1≤sizeLine;decide),fun q hq=>?_⟩
   exact k.ref (zs:=[-6]) (z6 (by simp only [Vbemak.does,dev?_none c])) B hq
  have c:(d:Int)≤s.devices.length:=by simpa using c
  obtain ⟨x,e1,e2⟩:=dev?_some d1 c
  obtain ⟨a,ha,da,hda⟩:=B.devAt e2
  have ed:Vbemak.does s (.issue d m)=if s.now < m∨m + s.life≤s.now then .error (-9)
   else if (x.balance / 1000).toNat=0 then .ok (s,[0,0])
   else if Vbemak.NUMBERS < s.given + (x.balance / 1000).toNat then .error (-4)
   else Vbemak.withRuns { Vbemak.changedDevice s d (fun x_1=>{ x_1 with issued:=x_1.issued + (x.balance / 1000).toNat,balance:=x_1.balance - 1000 * ((x.balance / 1000).toNat:Nat) }) with given:=s.given + (x.balance / 1000).toNat }
    (Vbemak.joined (s.runs++[⟨s.given + 1,s.given + (x.balance / 1000).toNat,d,m,.live x.owner⟩])) [((x.balance / 1000).toNat:Nat),((s.given + 1:Nat):Int)]:=by
   simp only [Vbemak.does,e1]
   rfl
  refine ⟨_,rfl,_,rfl,L.bk,A.zg,dx,_,_,rfl,hb,T.zt,T.zgd,zPj _ _ _ _ _ _ _ _ _ _,_,_,rfl,rfl,_,rfl,?_⟩
  refine or3 (c2:=decide ((m:Int) + s.life≤s.now)) (fun h=>⟨_,rfl,_,rfl,L.bk,A.zg,dx,_,_,rfl,hb,T.zt,T.zrf,zSv _ _ _ _ _ _ _ _ _ _,_,_,rfl,rfl,_,rfl,L.bk,A.zg,dx,_,_,rfl,hb,T.zt,T.zgd,zPj _ _ _ _ _ _ _ _ _ _,_,_,rfl,rfl,_,rfl,h⟩) (fun c1=>?_) fun c1=>?_
  ·rw [Bool.or_eq_true,decide_eq_true_eq,decide_eq_true_eq] at c1
   refine ⟨(by show 1≤sizeLine;decide),fun q hq=>?_⟩
   exact k.ref (zs:=[-9]) (z6 (ed.trans (if_pos (by omega)))) B hq
  rw [Bool.or_eq_false_iff,decide_eq_false_iff_not,decide_eq_false_iff_not] at c1
  rw [if_neg (by omega)] at ed
  refine ⟨_,rfl,_,rfl,L,s,_,d,a,rfl,rfl,B,d1,ha,?_⟩
  refine ⟨_,rfl,a,A.zy,da,_,_,rfl,hda,T.zbb,T.zKb,z4d _ _ _ _ _,_,rfl,?_⟩
  generalize (x.balance / 1000).toNat=n at ed
  refine ⟨_,rfl,rfl,_,rfl,?_⟩
  refine zmb (fun c2=>?_) fun c2=>?_
  ·have c2:(n:Int)=0:=by simpa using of_decide_eq_true c2
   rw [if_pos (by omega)] at ed
   refine ⟨(by show 3≤sizeLine;decide),fun q hq=>?_⟩
   exact k.ref (zs:=[0,0,0]) (zIc ed) B hq
  have c2:¬(n:Int)=0:=fun z=>c2 (decide_eq_true (congrArg V.int z))
  rw [if_neg (by omega)] at ed
  refine ⟨_,rfl,L.bk,A.zg,dx,_,_,rfl,hb,T.zt,T.zR,zBb _ _ _ _ _ _ _ _ _ _,L.rl,s.runs,rfl,B.runs,_,_,rfl,rfl,?_⟩
  rw [z5k I]
  refine ⟨_,rfl,_,rfl,_,_,rfl,rfl,_,_,rfl,rfl,?_⟩
  refine ⟨_,rfl,L.bk,A.zg,dx,_,_,rfl,hb,T.zt,T.zR,zBb _ _ _ _ _ _ _ _ _ _,_,rfl,_,rfl,_,rfl,_,rfl,_,rfl,a,A.zy,da,_,_,rfl,hda,T.zbb,T.zJc,z3k _ _ _ _ _,?_⟩
  refine ⟨_,rfl,fun u hu=>?_⟩
  have s1:zB H (upd H u (.tup [.int 1,.int x.owner,.int 0])):=zq hu
  intro p dp np ndp nep
  refine ⟨p,dp,_,_,_,_,_,rfl,zc,fun H1 h1 k1=>⟨rfl,?_⟩⟩
  have s2:zB H H1:=s1.trans (zld np ndp k1)
  have ef:(s.given:Int) + 1=((s.given + 1:Nat):Int):=rfl
  have el:(s.given:Int) + 1 + (n:Int) - 1=((s.given + n:Nat):Int):=by omega
  rw [el,ef] at h1
  have hu1:zbf H1 u (.live x.owner):=zld np ndp k1 _ _ zc
  refine ⟨L.rl,p,s.runs,⟨s.given + 1,s.given + n,d,m,.live x.owner⟩,rfl,zVc s2 B.runs,⟨dp,u,h1,hu1⟩,Nat.lt_of_le_of_lt I.nruns (by decide),fun H2 q hq hq0 s3=>?_⟩
  have s4:zB H H2:=s2.trans s3
  have ej:VM.zpe s.runs ⟨s.given + 1,s.given + n,d,m,.live x.owner⟩=Vbemak.joined (s.runs++[⟨s.given + 1,s.given + n,d,m,.live x.owner⟩]):=(VM.z5u I.tiles I.apart rfl (show s.given + 1≤s.given + n by omega)).symm
  rw [ej] at hq
  generalize Vbemak.joined (s.runs++[⟨s.given + 1,s.given + n,d,m,.live x.owner⟩])=l at hq ed
  have B2:=B.same s4
  obtain ⟨as,hq1,hq2⟩:=id hq
  have ell:((as.map V.ref).length:Int)=(l.length:Int):=by rw [List.length_map,zNb hq2]
  refine ⟨_,rfl,_,_,rfl,rfl,_,rfl,?_⟩
  refine or3 (c2:=decide ((l.length:Int) > 256)) (fun h=>⟨_,rfl,q,_,rfl,.inl (SqL.of hq1),_,_,rfl,rfl,_,rfl,by rw [ell];exact h⟩) (fun c3=>?_) fun c3=>?_
  ·rw [Bool.or_eq_true,decide_eq_true_eq,decide_eq_true_eq] at c3
   refine ⟨(by show 1≤sizeLine;decide),fun q' hq'=>?_⟩
   refine k.fin (L':=L) (zs:=[-4]) (z6 (ed.trans ?_)) B2 (Keeps.same s4) hq'
   by_cases c4:Vbemak.NUMBERS < s.given + n
   ·exact if_pos c4
   ·rw [if_neg c4]
    have c4:¬1000000000 < s.given + n:=c4
    exact if_pos (show 256 < l.length by omega)
  rw [Bool.or_eq_false_iff,decide_eq_false_iff_not,decide_eq_false_iff_not] at c3
  have c4:¬Vbemak.NUMBERS < s.given + n:=show ¬1000000000 < s.given + n by omega
  have c5:¬Vbemak.RUNS < l.length:=show ¬256 < l.length by omega
  rw [if_neg c4] at ed
  unfold Vbemak.withRuns at ed
  rw [if_neg c5] at ed
  obtain ⟨db,hb2⟩:=B2.book
  refine ⟨_,rfl,_,rfl,L.bk,A.zg,db,_,rfl,hb2,T.zt,T.zR,zmf _ _ _ _ _ _ _ _ _ _,?_⟩
  have kb:But L.bk H2 (upd H2 L.bk (.ins A.zg db (zr "runs" (.ref q) (bf s.opened s.life s.window s.now s.accounts L.dl L.td L.rl L.od s.offered)))):=But.upd
  have nqd:q≠L.dl:=(zk (s2 _ _ B.devs) hq0).symm
  have ob:=B2.offsB T kb
  have B3:=B2.atBook (s':={ s with given:=s.given + n,runs:=l }) (rl':=q) (od':=L.od) T kb ⟨db,zc⟩ rfl rfl (zie kb hb2 (zIe T) (zP hb2 hq1 (fun z=>nomatch z)) hq) nqd ob
  have hd3:=kb _ _ (s4 _ _ hda) (zP hb2 (s4 _ _ hda) (fun z=>by injection z with z;exact T.zZd z.symm))
  refine ⟨_,rfl,a,A.zy,da,_,_,rfl,hd3,T.zbb,T.zKb,z4d _ _ _ _ _,_,rfl,_,_,rfl,rfl,.inl ⟨by decide,by decide⟩,_,_,rfl,rfl,da,_,hd3,zNj _ _ _ _ _,?_⟩
  have ka:=But.upd (l:=a) (o:=.ins A.zy da (zr "balance" (.int (x.balance - 1000 * (n:Int))) (df x.owner x.tech x.issued x.withdrawn x.balance))) (H:=upd H2 L.bk (.ins A.zg db (zr "runs" (.ref q) (bf s.opened s.life s.window s.now s.accounts L.dl L.td L.rl L.od s.offered))))
  have B4:=B3.atDev (x':={ x with balance:=x.balance - 1000 * (n:Int) }) T ha e2 ka ⟨da,zc⟩
  refine ⟨_,rfl,a,A.zy,da,_,_,rfl,zc,T.zbb,T.zue,zZr _ _ _ _ _,_,rfl,_,_,rfl,rfl,da,_,zc,zNj x.owner x.tech x.issued x.withdrawn (x.balance - 1000 * (n:Int)),?_⟩
  have kc:=But.upd (l:=a) (o:=.ins A.zy da (zr "issued" (.int ((x.issued:Int) + (n:Int))) (zr "balance" (.int (x.balance - 1000 * (n:Int))) (df x.owner x.tech x.issued x.withdrawn x.balance)))) (H:=upd (upd H2 L.bk (.ins A.zg db (zr "runs" (.ref q) (bf s.opened s.life s.window s.now s.accounts L.dl L.td L.rl L.od s.offered)))) a (.ins A.zy da (zr "balance" (.int (x.balance - 1000 * (n:Int))) (df x.owner x.tech x.issued x.withdrawn x.balance))))
  have e3:(s.devices.set (d - 1) { x with balance:=x.balance - 1000 * (n:Int) })[d - 1]?=some { x with balance:=x.balance - 1000 * (n:Int) }:=List.getElem?_set_self (List.getElem?_eq_some_iff.mp e2).1
  have B5:=B4.atDev (x':={ x with balance:=x.balance - 1000 * (n:Int),issued:=x.issued + n }) T ha e3 kc ⟨da,zc⟩
  refine ⟨_,rfl,_,rfl,(by show 3≤sizeLine;decide),fun q' hq'=>?_⟩
  refine k.fin (L':={ L with rl:=q,od:=L.od }) (zs:=[0,(n:Int),((s.given + 1:Nat):Int)]) (zIc ed) ?_ ⟨rfl,fun b o e nb=>?_,fun b h=>.inl h⟩ hq'
  ·unfold Vbemak.changedDevice
   rw [zme e2]
   have:=B5
   dsimp only at this
   rw [List.set_set] at this
   exact this
  ·have n1:b≠a:=fun z=>nb (by rw [z];exact zbn ha)
   have n2:b≠L.bk:=fun z=>nb (by rw [z];exact zif A L)
   exact kc _ _ (ka _ _ (kb _ _ (s4 _ _ e) n2) n1) n1
end
end Pv
namespace Pv
open PySem PySem.Spec PyProof.Rows L2
open Vbemak (Call)
theorem zfm {s:Sta} (I:VM.SInv s) (h a b:Nat):z6k s.runs a b h=Vbemak.mine s h a b:=by
 unfold z6k Vbemak.mine
 rw [z5k I]
 by_cases c:a≤b
 ·rw [VM.z8t (fun r=>decide (r.st=.live h)) (fun r hr=>(VM.z7 I.tiles hr).2.1) c,decide_eq_true c,decide_eq_false (show ¬(b:Int) < a by omega),Bool.false_or,Bool.true_and]
  congr 1
  rw [Bool.eq_iff_iff,Bool.not_eq_true',decide_eq_false_iff_not,decide_eq_true_eq]
  omega
 ·rw [decide_eq_false c,decide_eq_true (show (b:Int) < a by omega)]
  rfl
theorem zw.atTab1 {K:PySem.W.Frag} {mg:Str→Option Value} {A:Adr} {H H':Hp} {L:Loc} {s:Sta} (T:Txt K mg A) (B:zw A H L s) (k:But A.zHb H H') (t:z7q A H'):zw A H' L s:=by
 obtain ⟨ps,hT⟩:=zye B.t1
 have ne:∀{b:Addr} {o:HO},H b=some o→(∀ps,o≠.tbl ps)→H' b=some o:=fun {b o} h n=>k _ _ h (zZb h hT (n _))
 exact {
  book:=let ⟨dx,h⟩:=B.book;⟨dx,ne h (fun _ z=>nomatch z)⟩
  devs:=ne B.devs (fun _ z=>nomatch z)
  dev:=z1c (fun _ _ ⟨dx,h⟩=>⟨dx,ne h (fun _ z=>nomatch z)⟩) B.dev
  nd:=B.nd
  tots:=let ⟨kvs,h,p⟩:=B.tots;⟨kvs,ne h (fun _ z=>nomatch z),p⟩
  runs:=let ⟨as,h1,h2⟩:=B.runs;⟨as,ne h1 (fun _ z=>nomatch z),z1c (fun _ _ z=>tab_run k B.t1 z) h2⟩
  rne:=B.rne
  offs:=let ⟨oas,h,p⟩:=B.offs;⟨oas,ne h (fun _ z=>nomatch z),z1c (fun _ _ ⟨dx,h⟩=>⟨dx,ne h (fun _ z=>nomatch z)⟩) p⟩
  t1:=t
  t2:=by
   rcases B.t2 with u|⟨c,u,v⟩
   ·exact .inl (k _ _ u T.zbk.symm)
   ·exact .inr ⟨c,k _ _ u T.zbk.symm,ne v (fun _ z=>nomatch z)⟩ }
theorem zrB (A:Adr) (L:Loc):A.zHb∈L.own A:=List.mem_cons_of_mem _ (List.mem_cons_of_mem _ (List.mem_cons_of_mem _ (List.mem_cons_of_mem _ (List.mem_cons_self ..))))
theorem z1B (A:Adr) (L:Loc):A.zob∈L.own A:=List.mem_cons_of_mem _ (List.mem_cons_of_mem _ (List.mem_cons_of_mem _ (List.mem_cons_of_mem _ (List.mem_cons_of_mem _ (List.mem_cons_self ..)))))
def zug (s:Sta) (h a b:Nat) (st:Ste):Sta×List Int:=if Vbemak.mine s h a b=false then (s,[-7]) else if 256 < (Vbemak.changed a b (fun _=>st) s.runs).length then (s,[-4]) else ({ s with runs:=Vbemak.changed a b (fun _=>st) s.runs },[0])
def someR (s:Sta) (h:Nat) (tech:Option Nat) (c:Nat) (st:Ste):Sta×List Int:=if Vbemak.count (Vbemak.sorted (Vbemak.liveOf s h tech)) < c then (s,[-8]) else
 if 256 < (Vbemak.changedAll (Vbemak.firsts c (Vbemak.sorted (Vbemak.liveOf s h tech))) (fun _=>st) s.runs).length then (s,[-4]) else
  ({ s with runs:=Vbemak.changedAll (Vbemak.firsts c (Vbemak.sorted (Vbemak.liveOf s h tech))) (fun _=>st) s.runs },0::Vbemak.pairs (Vbemak.firsts c (Vbemak.sorted (Vbemak.liveOf s h tech))))
theorem zze {s t:Sta} {c:Call} {l:List Rn} {a:List Int} (h:Vbemak.does s c=Vbemak.withRuns t l a):VM.zY s c=if 256 < l.length then (s,[-4]) else ({ t with runs:=l },0::a):=by
 unfold Vbemak.withRuns at h
 by_cases q:256 < l.length
 ·rw [if_pos q]
  exact z6 (h.trans (if_pos q))
 ·rw [if_neg q]
  exact zIc (h.trans (if_neg q))
def zxt (ps:List Pm):List Int:=(ps.length:Int)::ps.flatMap fun p=>[(p.first:Int),(p.last:Int)]
theorem zKr (ps:List Pm):zxt ps=Vbemak.pairs (ps.map fun p=>(p.first,p.last)):=by
 unfold zxt Vbemak.pairs Vbemak.rows Vbemak.nat
 rw [List.length_map,List.length_map]
 congr 1
 induction ps with
 |nil=>rfl
 |cons p ps ih=>
  rw [List.flatMap_cons,ih]
  rfl
section
variable {P:Program} {w:World} {K:PySem.W.Frag} {mg:Str→Option Value} {base:Heap} {A:Adr}
def zcw (A:Adr):Sp:=fun vs H Q _=>∃(L:Loc) (s:Sta) (pl t:Addr) (ps:List Pm) (st:Ste),vs=[.ref L.bk,.ref pl,.ref t]∧zw A H L s∧s.runs.length≤256∧zNc A.zo A.zcb H pl ps∧zbf H t st∧
 (ps.map fun p=>p.run.first).Nodup∧(∀p∈ps,1≤p.first)∧ps.length≤10000∧(256 < (VM.z3c (VM.zjb ps) st s.runs).length→∀H':Hp,zB H H'→Q (.bl false) H')∧
 (¬256 < (VM.z3c (VM.zjb ps) st s.runs).length→∀(H':Hp) (q:Addr),zw A H' { L with rl:=q } { s with runs:=VM.z3c (VM.zjb ps) st s.runs }→But L.bk H H'→Q (.bl true) H')
theorem z5f (T:Txt K mg A):zG P w K mg base CX0 6 A.z0r A.zLr ["book","parts","status"] (zcw A):=by
 have z1w:=@zzu P w K mg base A T
 obtain ⟨zdv,zyj⟩:=T.zoj
 have nN:=zBp.nd
 refine T.zUc.F.ok zBp (fun vs H Q E h=>?_) (fun cdv B outer s H vs Q E hr h=>?_)
 ·obtain ⟨L,s,pl,t,ps,st,rfl,_⟩:=h
  rfl
 ·obtain ⟨L,s,pl,t,ps,st,rfl,B,I,hpl,ht,hnd,h1,hlen,k1,k2⟩:=h
  have hu:=zM hr
  refine ⟨_,(zd (zK (i:=3) nN rfl (Or.inl rfl) (zn z1w hr T.zge (za (zf (pv 0) rfl) (za (pv 1) (za (pv 2) zb)))))
   (zd (zI (zC zGh (z5 zxb (by rfl) T.zAd PySem.boot_len (za (pv 3) zb)) (zp (v:=.int (256)) rfl zyj ⟨_,rfl⟩) (zE _)) (ze (zh zYk)) zx)
   (zd (zdb (pv 0) (pv 3) rfl)
   (ze (zh zYk))))),?_⟩
  obtain ⟨dx,hb⟩:=B.book
  refine ⟨_,rfl,L.bk,A.zg,dx,_,_,rfl,hb,T.zt,T.zR,zBb _ _ _ _ _ _ _ _ _ _,_,rfl,_,rfl,L.rl,pl,t,s.runs,ps,st,rfl,B.runs,hpl,ht,hnd,h1,Nat.le_trans I (by decide),hlen,fun H1 q hq hq0 s1=>?_⟩
  generalize VM.z3c (VM.zjb ps) st s.runs=l at hq k1 k2
  obtain ⟨as,hq1,hq2⟩:=id hq
  refine ⟨_,rfl,q,_,rfl,.inl (SqL.of hq1),_,_,rfl,rfl,_,rfl,?_⟩
  rw [List.length_map,zNb hq2]
  refine zmb (fun c=>?_) fun c=>?_
  ·have c:(l.length:Int) > 256:=of_decide_eq_true c
   exact k1 (by omega) H1 s1
  have c:¬(l.length:Int) > 256:=fun z=>c (decide_eq_true z)
  have B1:=B.same s1
  obtain ⟨db,hb1⟩:=B1.book
  refine ⟨_,rfl,_,rfl,L.bk,A.zg,db,_,rfl,hb1,T.zt,T.zR,zmf _ _ _ _ _ _ _ _ _ _,?_⟩
  have kb:=But.upd (l:=L.bk) (o:=.ins A.zg db (zr "runs" (.ref q) (bf s.opened s.life s.window s.now s.accounts L.dl L.td L.rl L.od s.offered))) (H:=H1)
  have ob:=B1.offsB T kb
  have B2:=B1.atBook (s':={ s with runs:=l }) (rl':=q) (od':=L.od) T kb ⟨db,zc⟩ rfl rfl (zie kb hb1 (zIe T) (zP hb1 hq1 (fun z=>nomatch z)) hq) (zk B.devs hq0).symm ob
  exact k2 (by omega) _ q B2 (zmo s1 kb)
def zSm (A:Adr):Sp:=fun vs H Q _=>∃(L:Loc) (s:Sta) (x y z:Int) (h a b:Nat) (t:Addr) (st:Ste),vs=[.ref L.bk,.int x,.int y,.int z,.ref t]∧x=h∧y=a∧z=b∧1≤a∧zw A H L s∧VM.SInv s∧zbf H t st∧zX A H L (zug s h a b st) Q
theorem z2g (T:Txt K mg A):zG P w K mg base CX0 7 A.zqh A.zvh ["book","account","first","last","status"] (zSm A):=by
 have zTk:=@zNn P w K mg base A T
 have zWb:=@zyd P w K mg base A T
 have zId:=@z5f P w K mg base A T
 obtain ⟨zib,zF⟩:=T.zfb
 obtain ⟨zei,zcd⟩:=T.zig
 obtain ⟨zIj,zXd⟩:=T.zYe
 have nN:=zSg.nd
 refine T.zUb.F.ok zSg (fun vs H Q E h=>?_) (fun cdv B outer s H vs Q E hr h=>?_)
 ·obtain ⟨L,s,x,y,z,h,a,b,t,st,rfl,_⟩:=h
  rfl
 ·obtain ⟨L,s,x,y,z,h,a,b,t,st,rfl,rfl,rfl,rfl,a1,B,I,ht,k⟩:=h
  have hu:=zM hr
  refine ⟨_,(zd (zI (zDb (zyb (zn zTk hr T.zHd (za (zf (pv 0) rfl) (za (pv 2) (za (pv 3) (za (pv 1) zb))))))) (ze (zh (zA (za (zp (v:=.int (-7)) rfl zXd ⟨_,rfl⟩) zb)))) zx)
   (zd (zI (zDb (zyb (zn zId hr T.zUc (za (pv 0) (za (zn zWb hr T.zub (za (zf (pv 0) rfl) (za (pv 2) (za (pv 3) zb)))) (za (pv 4) zb)))))) (ze (zh (zA (za (zp (v:=.int (-4)) rfl zcd ⟨_,rfl⟩) zb)))) zx)
   (ze (zh (zA (za (zp (v:=.int (0)) rfl zF ⟨_,rfl⟩) zb)))))),?_⟩
  obtain ⟨dx,hb⟩:=B.book
  have rl:s.runs.length≤10000:=Nat.le_trans I.nruns (by decide)
  unfold zug at k
  refine ⟨_,rfl,L.bk,A.zg,dx,_,_,rfl,hb,T.zt,T.zR,zBb _ _ _ _ _ _ _ _ _ _,_,rfl,_,rfl,_,rfl,L.rl,s.runs,_,_,_,a,b,h,rfl,rfl,rfl,rfl,B.runs,rl,fun H1 s1=>?_⟩
  rw [zfm I]
  refine ⟨_,rfl,?_⟩
  have B1:=B.same s1
  refine zmb (fun c=>?_) fun c=>?_
  ·have c:Vbemak.mine s h a b=false:=by simpa using c
   rw [if_pos c] at k
   refine ⟨(by show 1≤sizeLine;decide),fun q hq=>?_⟩
   exact k.fin (L':=L) (zs:=[-7]) rfl B1 (Keeps.same s1) hq
  have c:¬Vbemak.mine s h a b=false:=by simpa using c
  have cm:=Bool.of_not_eq_false c
  obtain ⟨m1,m2,m3⟩:=VM.z1m I cm
  rw [if_neg c,←VM.z8g I.tiles m1] at k
  obtain ⟨db,hb1⟩:=B1.book
  refine ⟨_,rfl,_,rfl,L.bk,A.zg,db,_,_,rfl,hb1,T.zt,T.zR,zBb _ _ _ _ _ _ _ _ _ _,_,rfl,_,rfl,L.rl,s.runs,_,_,a,b,rfl,rfl,rfl,B1.runs,rl,fun H2 pl hpl s2=>?_⟩
  have ok:=VM.zAi (a:=a) (b:=b) I.tiles
  have B2:=B1.same s2
  refine ⟨_,rfl,L,s,pl,t,VM.zL a b s.runs,st,rfl,B2,I.nruns,hpl,s2 _ _ (s1 _ _ ht),ok.nd,fun p hp=>?_,Nat.le_trans (z4e a b s.runs) rl,fun c2 H3 s3=>?_,fun c2 H3 q' B3 k3=>?_⟩
  ·have:=ok.lo p hp
   have:=(VM.z7 I.tiles (ok.mem p hp)).1
   omega
  ·rw [if_pos c2] at k
   refine ⟨_,rfl,zic ?_⟩
   refine ⟨(by show 1≤sizeLine;decide),fun q hq=>?_⟩
   exact k.fin (L':=L) (zs:=[-4]) rfl (B2.same s3) (Keeps.same ((s1.trans s2).trans s3)) hq
  ·rw [if_neg c2] at k
   refine ⟨_,rfl,zO ?_⟩
   refine ⟨(by show 1≤sizeLine;decide),fun q hq=>?_⟩
   exact k.fin (L':={ L with rl:=q' }) (zs:=[0]) rfl B3 ⟨rfl,fun b o e n=>k3 _ _ (s2 _ _ (s1 _ _ e)) fun z=>n (by rw [z];exact zif A L),fun b h=>.inl h⟩ hq
def zvs (A:Adr):Sp:=fun vs H Q _=>∃(pl:Addr) (ps:List Pm),vs=[.ref pl]∧zNc A.zo A.zcb H pl ps∧ps.length≤10000∧∀(H':Hp) (q:Addr),H' q=some (.lst (((0:Int)::zxt ps).map V.int))→zB H H'→Q (.ref q) H'
theorem zyl (T:Txt K mg A):zG P w K mg base CX0 1 A.z4l A.zXl ["parts"] (zvs A):=by
 obtain ⟨zib,zF⟩:=T.zfb
 have nN:=zwl.nd
 refine T.zTc.F.ok zwl (fun vs H Q E h=>?_) (fun cdv B outer s H vs Q E hr h=>?_)
 ·obtain ⟨pl,ps,rfl,_⟩:=h
  rfl
 ·obtain ⟨pl,ps,rfl,⟨pas,hpl,hpp⟩,hlen,k⟩:=h
  have hu:=zM hr
  refine ⟨_,(zd (zK (i:=1) nN rfl (Or.inl rfl) (zA (za (zp (v:=.int (0)) rfl zF ⟨_,rfl⟩) (za (z5 zxb (by rfl) T.zAd PySem.boot_len (za (pv 0) zb)) zb))))
   (zd (zMd PassesOwn.never rfl (zYb (pv 0)) (zrb (i:=2) nN rfl (Or.inl rfl)) (ze (z4b (z6f PySem.F.plainAttrs_list PySem.F.slot_list_extend PySem.F.type_list_extend zTg (pv 1) (za (zA (za (zf (pv 2) rfl) (za (zf (pv 2) rfl) zb))) zb)))))
   (ze (zh (pv 1))))),?_⟩
  refine ⟨_,rfl,pl,_,rfl,.inl (SqL.of hpl),(by show 2≤sizeLine;decide),fun q hq=>?_⟩
  rw [List.length_map,zNb hpp]
  have s0:=zq (o:=.lst [.int 0,.int (ps.length:Int)]) hq
  refine ⟨_,rfl,pl,rfl,⟨_,SqL.of (s0 _ _ hpl)⟩,zwd (K:=K) (a:=pl) (xs:=pas.map V.ref) (fun i σ H'=>∃v:Option V,σ=[some (.ref pl),some (.ref q),v]∧zB H H'∧H' q=some (.lst (([(0:Int),(ps.length:Int)]++(ps.take i).flatMap fun p=>[(p.first:Int),(p.last:Int)]).map V.int)))
   ⟨none,rfl,s0,zc⟩ (fun i σ H' _ ⟨_,_,s1,_⟩=>SqL.of (s1 _ _ hpl)) ?_ ?_⟩
  ·rintro i y σ H1 hi ⟨v,rfl,s1,hq1⟩
   obtain ⟨a,ha,rfl⟩:=zCc hi
   obtain ⟨p,hpi,hpa⟩:=pat hpp ha
   obtain ⟨dp,ra,e1,_⟩:=z0d s1 hpa
   refine ⟨_,rfl,.inl ⟨rfl,_,SqL.of hq1⟩,_,rfl,a,A.zcb,dp,_,_,rfl,e1,T.znd,T.zSe,zZo _ _ _,_,rfl,a,A.zcb,dp,_,_,rfl,e1,T.znd,T.zqf,zuq _ _ _,(by show 2≤sizeLine;decide),fun u hu=>?_⟩
   have s2:=zq (o:=.lst [.int (p.first:Int),.int (p.last:Int)]) hu
   have fl:∀l:List Pm,(l.flatMap fun p=>[(p.first:Int),(p.last:Int)]).length=2 * l.length:=by
    intro l
    induction l with
    |nil=>rfl
    |cons x l ih=>
     rw [List.flatMap_cons,List.length_append,ih]
     show 2 + 2 * l.length=2 * (l.length + 1)
     omega
   refine ⟨q,u,_,_,rfl,rfl,s2 _ _ hq1,zc,?_,?_⟩
   ·rw [List.length_map,List.length_append,fl]
    have:=zmd i ps
    show _ + 2≤sizeLine
    have e:([(0:Int),(ps.length:Int)]:List Int).length=2:=rfl
    rw [e]
    exact Nat.le_trans (show 2 + 2 * (ps.take i).length + 2≤100000 by omega) (by decide)
   ·refine ⟨_,rfl,fun b o e=>?_,?_⟩
    ·rw [zi (zk e hq)]
     exact s2 _ _ (s1 _ _ e)
    ·rw [zc,take_snoc hpi,List.flatMap_append,←List.append_assoc]
     exact congrArg (fun z=>some (HO.lst z)) (List.map_append (f:=V.int) (l₁:=[(0:Int),(ps.length:Int)]++(ps.take i).flatMap fun p=>[(p.first:Int),(p.last:Int)]) (l₂:=[(p.first:Int),(p.last:Int)])).symm
  ·rintro σ H1 ⟨v,rfl,s1,hq1⟩
   rw [List.length_map,zNb hpp,List.take_length] at hq1
   exact ⟨_,rfl,k H1 q hq1 s1⟩
end
end Pv
namespace Pv
open PySem PySem.Spec PyProof.Rows L2
open Vbemak (Call)
theorem z5n (s:Sta) (h:Nat) (tech:Option Nat):(s.runs.filter fun r=>decide (r.st=.live h)).filter (zfn s tech)=Vbemak.liveOf s h tech:=by
 unfold Vbemak.liveOf
 rw [List.filter_filter]
 refine List.filter_congr fun r _=>?_
 rw [Bool.and_comm]
 rfl
theorem zXq {s:Sta} (I:VM.SInv s) {r:Rn} (hr:r∈s.runs):1≤r.device∧r.device≤s.devices.length:=I.dev r.first _ (VM.zZv I.tiles hr (Nat.le_refl _) (VM.z7 I.tiles hr).2.1)
theorem z8q {s:Sta} {h g:Nat} (h1:1≤h) (g1:1≤g):((!decide ((h:Int)≤s.accounts))||(!decide ((g:Int)≤s.accounts)))=true↔(Vbemak.isAccount s h=false∨Vbemak.isAccount s g=false):=by
 rw [←z3d h1,←z3d g1,Bool.or_eq_true,Bool.not_eq_true',Bool.not_eq_true']
section
variable {P:Program} {w:World} {K:PySem.W.Frag} {mg:Str→Option Value} {base:Heap} {A:Adr}
def zZp (A:Adr):Sp:=fun vs H Q _=>∃(L:Loc) (s:Sta) (x y z:Int) (h c:Nat) (t:Addr) (st:Ste),vs=[.ref L.bk,.int x,.int y,.int z,.ref t]∧x=h∧-1≤y∧z=c∧zw A H L s∧VM.SInv s∧zbf H t st∧zX A H L (someR s h (Vbemak.techArg y) c st) Q
theorem zWi (T:Txt K mg A) (LM:zHj base mg A):zG P w K mg base CX0 7 A.zjk A.zLj ["book","account","choice","count","status"] (zZp A):=by
 have zCo:=@zwn P w K mg base A T LM
 have zEb:=@zBd P w K mg base A T
 have zXe:=@z0i P w K mg base A T
 have zId:=@z5f P w K mg base A T
 have zOc:=@zve P w K mg base A T
 have z4h:=@zyl P w K mg base A T
 obtain ⟨zei,zcd⟩:=T.zig
 obtain ⟨zvx,zTm⟩:=T.zom
 have nN:=z1i.nd
 refine T.zrc.F.ok z1i (fun vs H Q E h=>?_) (fun cdv B outer s H vs Q E hr h=>?_)
 ·obtain ⟨L,s,x,y,z,h,c,t,st,rfl,_⟩:=h
  rfl
 ·obtain ⟨L,s,x,y,z,h,c,t,st,rfl,rfl,hy,rfl,B,I,ht,k⟩:=h
  have hu:=zM hr
  refine ⟨_,(zd (zK (i:=5) nN rfl (Or.inl rfl) (zn zXe hr T.z5b (za (pv 0) (za (zn zOc hr T.zSb (za (zf (pv 0) rfl) (za (pv 1) zb))) (za (pv 2) zb)))))
   (zd (zI (zC zgn (zn zEb hr T.zwb (za (pv 5) zb)) (pv 3) (zE _)) (ze (zh (zA (za (zp (v:=.int (-8)) rfl zTm ⟨_,rfl⟩) zb)))) zx)
   (zd (zK (i:=6) nN rfl (Or.inl rfl) (zn zCo hr T.zmc (za (pv 5) (za (pv 3) zb))))
   (zd (zI (zDb (zyb (zn zId hr T.zUc (za (pv 0) (za (pv 6) (za (pv 4) zb)))))) (ze (zh (zA (za (zp (v:=.int (-4)) rfl zcd ⟨_,rfl⟩) zb)))) zx)
   (ze (zh (zn z4h hr T.zTc (za (pv 6) zb)))))))),?_⟩
  obtain ⟨dx,hb⟩:=B.book
  have rl:s.runs.length≤10000:=Nat.le_trans I.nruns (by decide)
  have fl:∀p:Rn→Bool,(s.runs.filter p).length≤10000:=fun p=>Nat.le_trans (List.length_filter_le ..) rl
  refine ⟨_,rfl,_,rfl,L.bk,A.zg,dx,_,_,rfl,hb,T.zt,T.zR,zBb _ _ _ _ _ _ _ _ _ _,_,rfl,L.rl,s.runs,_,h,rfl,rfl,B.runs,rl,fun H1 q1 hq1 hq10 s1=>?_⟩
  have B1:=B.same s1
  refine ⟨_,rfl,L,s,q1,_,_,rfl,hy,B1,hq1,fl _,fun r hr=>zXq I (List.mem_filter.mp hr).1,fun H2 q2 hq2 s2=>?_⟩
  rw [z5n] at hq2
  have B2:=B1.same s2
  have lm:∀r∈Vbemak.liveOf s h (Vbemak.techArg y),r∈s.runs:=fun r hr=>(VM.zWe hr).1
  have lf:∀r∈Vbemak.liveOf s h (Vbemak.techArg y),r.first≤r.last:=fun r hr=>(VM.z7 I.tiles (lm r hr)).2.1
  have ll:(Vbemak.liveOf s h (Vbemak.techArg y)).length≤10000:=fl _
  have lnd:((Vbemak.liveOf s h (Vbemak.techArg y)).map fun r=>r.first).Nodup:=List.Sublist.nodup (VM.zOf List.filter_sublist) (VM.zkd I.tiles)
  have pm:=VM.zPc (Vbemak.liveOf s h (Vbemak.techArg y))
  unfold someR at k
  rw [VM.zep pm] at k
  refine ⟨_,rfl,q2,_,rfl,hq2,ll,fun H3 s3=>?_⟩
  rw [VM.z2d lf]
  refine ⟨_,rfl,_,_,rfl,rfl,_,rfl,?_⟩
  have B3:=B2.same s3
  have sA:=(s1.trans s2).trans s3
  refine zmb (fun c1=>?_) fun c1=>?_
  ·have c1:((Vbemak.count (Vbemak.liveOf s h (Vbemak.techArg y)):Nat):Int) < (c:Int):=of_decide_eq_true c1
   rw [if_pos (by omega)] at k
   refine ⟨(by show 1≤sizeLine;decide),fun q hq=>?_⟩
   exact k.fin (L':=L) (zs:=[-8]) rfl B3 (Keeps.same sA) hq
  have c1:¬((Vbemak.count (Vbemak.liveOf s h (Vbemak.techArg y)):Nat):Int) < (c:Int):=fun z=>c1 (decide_eq_true z)
  rw [if_neg (by omega)] at k
  refine ⟨_,rfl,_,rfl,q2,_,_,c,rfl,rfl,zVc s3 hq2,lf,lnd,ll,B3.t1,fun H4 pl hpl hpl0 k4 t4=>?_⟩
  have B4:=B3.atTab1 T k4 t4
  have smem:∀r∈Vbemak.sorted (Vbemak.liveOf s h (Vbemak.techArg y)),r∈s.runs:=fun r hr=>lm r (pm.mem_iff.mp hr)
  have snd:((Vbemak.sorted (Vbemak.liveOf s h (Vbemak.techArg y))).map fun r=>r.first).Nodup:=(pm.map _).nodup_iff.mpr lnd
  have ok:=VM.zpo (c:=c) I.tiles smem snd
  have e1:VM.z3c (VM.zjb (VM.z3b c (Vbemak.sorted (Vbemak.liveOf s h (Vbemak.techArg y))))) st s.runs=Vbemak.changedAll (Vbemak.firsts c (Vbemak.sorted (Vbemak.liveOf s h (Vbemak.techArg y)))) (fun _=>st) s.runs:=VM.z4w I.tiles I.apart
  have e2:(VM.z3b c (Vbemak.sorted (Vbemak.liveOf s h (Vbemak.techArg y)))).map (fun p=>(p.first,p.last))=Vbemak.firsts c (Vbemak.sorted (Vbemak.liveOf s h (Vbemak.techArg y))):=VM.zjg fun r hr=>lf r (pm.mem_iff.mp hr)
  rw [←e1,←e2,←zKr] at k
  have plen3:(VM.z3b c (Vbemak.sorted (Vbemak.liveOf s h (Vbemak.techArg y)))).length≤10000:=Nat.le_trans (zFi _ c) (by rw [pm.length_eq];exact ll)
  generalize VM.z3b c (Vbemak.sorted (Vbemak.liveOf s h (Vbemak.techArg y)))=ps at hpl ok k plen3
  have ht4:zbf H4 t st:=by
   obtain ⟨qs,hT⟩:=zye B3.t1
   have:=sA _ _ ht
   exact k4 _ _ this (zZb this hT (by intro z;cases z))
  have kA:∀b o,H b=some o→b∉L.own A→H4 b=some o:=fun b o e n=>k4 _ _ (sA _ _ e) fun z=>n (by rw [z];exact zrB A L)
  refine ⟨_,rfl,_,rfl,_,rfl,L,s,pl,t,ps,st,rfl,B4,I.nruns,hpl,ht4,ok.nd,fun p hp=>?_,plen3,fun c2 H5 s5=>?_,fun c2 H5 q' B5 k5=>?_⟩
  ·have:=ok.lo p hp
   have:=(VM.z7 I.tiles (ok.mem p hp)).1
   omega
  ·rw [if_pos c2] at k
   refine ⟨_,rfl,zic ?_⟩
   refine ⟨(by show 1≤sizeLine;decide),fun q hq=>?_⟩
   exact k.fin (L':=L) (zs:=[-4]) rfl (B4.same s5) ⟨rfl,fun b o e n=>s5 _ _ (kA b o e n),fun b h=>.inl h⟩ hq
  ·rw [if_neg c2] at k
   refine ⟨_,rfl,zO ?_⟩
   have hpl5:zNc A.zo A.zcb H5 pl ps:=by
    obtain ⟨pas,h1,h2⟩:=hpl
    obtain ⟨db,hb4⟩:=B4.book
    have w:=zIe (dx:=db) (fs:=bf s.opened s.life s.window s.now s.accounts L.dl L.td L.rl L.od s.offered) T
    refine ⟨pas,k5 _ _ h1 (zP hb4 h1 (fun z=>nomatch z)),z1c (fun _ _ ⟨dp,ra,z1,z2⟩=>⟨dp,ra,k5 _ _ z1 (zP hb4 z1 (fun z=>by injection z with z;exact T.zvi z)),zPo k5 hb4 w z2⟩) h2⟩
   refine ⟨_,rfl,pl,ps,rfl,hpl5,plen3,fun H6 q hq6 s6=>?_⟩
   exact k H6 { L with rl:=q' } q (B5.same s6) hq6 ⟨rfl,fun b o e n=>s6 _ _ (k5 _ _ (kA b o e n) fun z=>n (by rw [z];exact zif A L)),fun b h=>.inl h⟩
def z2A (A:Adr):Sp:=fun vs H Q _=>∃(L:Loc) (s:Sta) (x y z v:Int) (h g a b:Nat),vs=[.ref L.bk,.int x,.int y,.int z,.int v]∧x=h∧y=g∧z=a∧v=b∧1≤h∧1≤g∧1≤a∧zw A H L s∧VM.SInv s∧zX A H L (VM.zY s (.move h g a b)) Q
theorem zKA (T:Txt K mg A):zG P w K mg base CX0 8 A.zHx A.z7x ["book","source","to","first","last"] (z2A A):=by
 have zW:=@z6b P w K mg base A T
 have zsc:=@z6d P w K mg base A T
 have z9e:=@z2g P w K mg base A T
 obtain ⟨zXc,zgb⟩:=T.zbc
 have nN:=ziv.nd
 refine T.zVh.F.ok ziv (fun vs H Q E h=>?_) (fun cdv B outer s H vs Q E hr h=>?_)
 ·obtain ⟨L,s,x,y,z,v,h,g,a,b,rfl,_⟩:=h
  rfl
 ·obtain ⟨L,s,x,y,z,v,h,g,a,b,rfl,rfl,rfl,rfl,rfl,h1,g1,a1,B,I,k⟩:=h
  have hu:=zM hr
  refine ⟨_,(zd (zI (PW.pt (zBh (zDb (zyb (zn zW hr T.z8 (za (pv 0) (za (pv 1) zb))))) (z3f (zDb (zyb (zn zW hr T.z8 (za (pv 0) (za (pv 2) zb)))))))) (ze (zh (zA (za (zp (v:=.int (-5)) rfl zgb ⟨_,rfl⟩) zb)))) zx)
   (ze (zh (zn z9e hr T.zUb (za (pv 0) (za (pv 1) (za (pv 3) (za (pv 4) (za (zn zsc hr T.zoc (za (pv 2) zb)) zb))))))))),?_⟩
  refine ⟨_,rfl,_,rfl,L,s,_,rfl,B,_,rfl,?_⟩
  refine or3 (c2:=!decide ((g:Int)≤s.accounts)) (fun e=>⟨_,rfl,_,rfl,L,s,_,rfl,B,_,rfl,e⟩) (fun c=>?_) fun c=>?_
  ·refine ⟨(by show 1≤sizeLine;decide),fun q hq=>?_⟩
   exact k.ref (zs:=[-5]) (z6 (if_pos ((z8q h1 g1).mp c))) B hq
  have c:¬(Vbemak.isAccount s h=false∨Vbemak.isAccount s g=false):=fun z=>by rw [(z8q h1 g1).mpr z] at c;cases c
  refine ⟨_,rfl,_,rfl,_,rfl,_,rfl,_,rfl,_,rfl,fun u hu=>?_⟩
  have s1:=zq (o:=.tup [.int 1,.int g,.int 0]) hu
  refine ⟨L,s,_,_,_,h,a,b,u,.live g,rfl,rfl,rfl,rfl,a1,B.same s1,I,zc,fun H' L' q B' hq kp=>?_⟩
  refine k H' L' q ?_ ?_ ⟨kp.bk,fun b o e n=>kp.keep b o (s1 _ _ e) n,fun b h=>(kp.sub b h).imp id fun z=>s1.free z⟩
  all_goals
   have ea:VM.zY s (.move h g a b)=zug s h a b (.live g):=by
    unfold zug
    by_cases m:Vbemak.mine s h a b=false
    ·rw [if_pos m]
     exact z6 ((if_neg c).trans (if_pos m))
    ·rw [if_neg m]
     exact zze ((if_neg c).trans (if_neg m))
   rw [ea]
   first|exact B'|exact hq
def zht (A:Adr):Sp:=fun vs H Q _=>∃(L:Loc) (s:Sta) (x y z v:Int) (h g c:Nat),vs=[.ref L.bk,.int x,.int y,.int z,.int v]∧x=h∧y=g∧-1≤z∧v=c∧1≤h∧1≤g∧zw A H L s∧VM.SInv s∧zX A H L (VM.zY s (.moveSome h g (Vbemak.techArg z) c)) Q
theorem zBt (T:Txt K mg A) (LM:zHj base mg A):zG P w K mg base CX0 8 A.zUn A.zHn ["book","source","to","choice","count"] (zht A):=by
 have zW:=@z6b P w K mg base A T
 have zsc:=@z6d P w K mg base A T
 have zDg:=@zWi P w K mg base A T LM
 obtain ⟨zXc,zgb⟩:=T.zbc
 have nN:=zvm.nd
 refine T.zUd.F.ok zvm (fun vs H Q E h=>?_) (fun cdv B outer s H vs Q E hr h=>?_)
 ·obtain ⟨L,s,x,y,z,v,h,g,c,rfl,_⟩:=h
  rfl
 ·obtain ⟨L,s,x,y,z,v,h,g,c,rfl,rfl,rfl,hz,rfl,h1,g1,B,I,k⟩:=h
  have hu:=zM hr
  refine ⟨_,(zd (zI (PW.pt (zBh (zDb (zyb (zn zW hr T.z8 (za (pv 0) (za (pv 1) zb))))) (z3f (zDb (zyb (zn zW hr T.z8 (za (pv 0) (za (pv 2) zb)))))))) (ze (zh (zA (za (zp (v:=.int (-5)) rfl zgb ⟨_,rfl⟩) zb)))) zx)
   (ze (zh (zn zDg hr T.zrc (za (pv 0) (za (pv 1) (za (pv 3) (za (pv 4) (za (zn zsc hr T.zoc (za (pv 2) zb)) zb))))))))),?_⟩
  refine ⟨_,rfl,_,rfl,L,s,_,rfl,B,_,rfl,?_⟩
  refine or3 (c2:=!decide ((g:Int)≤s.accounts)) (fun e=>⟨_,rfl,_,rfl,L,s,_,rfl,B,_,rfl,e⟩) (fun c1=>?_) fun c1=>?_
  ·refine ⟨(by show 1≤sizeLine;decide),fun q hq=>?_⟩
   exact k.ref (zs:=[-5]) (z6 (if_pos ((z8q h1 g1).mp c1))) B hq
  have c1:¬(Vbemak.isAccount s h=false∨Vbemak.isAccount s g=false):=fun z=>by rw [(z8q h1 g1).mpr z] at c1;cases c1
  refine ⟨_,rfl,_,rfl,_,rfl,_,rfl,_,rfl,_,rfl,fun u hu=>?_⟩
  have s1:=zq (o:=.tup [.int 1,.int g,.int 0]) hu
  refine ⟨L,s,_,_,_,h,c,u,.live g,rfl,rfl,hz,rfl,B.same s1,I,zc,fun H' L' q B' hq kp=>?_⟩
  refine k H' L' q ?_ ?_ ⟨kp.bk,fun b o e n=>kp.keep b o (s1 _ _ e) n,fun b h=>(kp.sub b h).imp id fun z=>s1.free z⟩
  all_goals
   have ea:VM.zY s (.moveSome h g (Vbemak.techArg z) c)=someR s h (Vbemak.techArg z) c (.live g):=by
    unfold someR
    by_cases m:Vbemak.count (Vbemak.sorted (Vbemak.liveOf s h (Vbemak.techArg z))) < c
    ·rw [if_pos m]
     exact z6 ((if_neg c1).trans (if_pos m))
    ·rw [if_neg m]
     exact zze ((if_neg c1).trans (if_neg m))
   rw [ea]
   first|exact B'|exact hq
def z2x (A:Adr):Sp:=fun vs H Q _=>∃(L:Loc) (s:Sta) (x y z v:Int) (h a b u:Nat),vs=[.ref L.bk,.int x,.int y,.int z,.int v]∧x=h∧y=a∧z=b∧v=u∧1≤h∧1≤a∧zw A H L s∧VM.SInv s∧zX A H L (VM.zY s (.cancel h a b u)) Q
theorem zyx (T:Txt K mg A):zG P w K mg base CX0 8 A.zzt A.zgu ["book","account","first","last","use"] (z2x A):=by
 have zsg:=@zMi P w K mg base A T
 have zW:=@z6b P w K mg base A T
 have z9e:=@z2g P w K mg base A T
 obtain ⟨zXc,zgb⟩:=T.zbc
 have nN:=zlr.nd
 refine T.zHf.F.ok zlr (fun vs H Q E h=>?_) (fun cdv B outer s H vs Q E hr h=>?_)
 ·obtain ⟨L,s,x,y,z,v,h,a,b,u,rfl,_⟩:=h
  rfl
 ·obtain ⟨L,s,x,y,z,v,h,a,b,u,rfl,rfl,rfl,rfl,rfl,h1,a1,B,I,k⟩:=h
  have hu:=zM hr
  refine ⟨_,(zd (zI (zDb (zyb (zn zW hr T.z8 (za (pv 0) (za (pv 1) zb))))) (ze (zh (zA (za (zp (v:=.int (-5)) rfl zgb ⟨_,rfl⟩) zb)))) zx)
   (ze (zh (zn z9e hr T.zUb (za (pv 0) (za (pv 1) (za (pv 2) (za (pv 3) (za (zn zsg hr T.zpc (za (pv 1) (za (pv 4) zb))) zb))))))))),?_⟩
  refine ⟨_,rfl,_,rfl,L,s,_,rfl,B,_,rfl,?_⟩
  rw [←z3d h1]
  refine zmb (fun c=>?_) fun c=>?_
  ·have c:Vbemak.isAccount s h=false:=by simpa using c
   refine ⟨(by show 1≤sizeLine;decide),fun q hq=>?_⟩
   exact k.ref (zs:=[-5]) (z6 (if_pos c)) B hq
  have c:¬Vbemak.isAccount s h=false:=by simpa using c
  refine ⟨_,rfl,_,rfl,_,rfl,_,rfl,_,rfl,_,rfl,_,_,rfl,fun p hp=>?_⟩
  have s1:=zq (o:=.tup [.int 3,.int h,.int u]) hp
  refine ⟨L,s,_,_,_,h,a,b,p,.cancelled h u,rfl,rfl,rfl,rfl,a1,B.same s1,I,zc,fun H' L' q B' hq kp=>?_⟩
  refine k H' L' q ?_ ?_ ⟨kp.bk,fun b o e n=>kp.keep b o (s1 _ _ e) n,fun b h=>(kp.sub b h).imp id fun z=>s1.free z⟩
  all_goals
   have ea:VM.zY s (.cancel h a b u)=zug s h a b (.cancelled h u):=by
    unfold zug
    by_cases m:Vbemak.mine s h a b=false
    ·rw [if_pos m]
     exact z6 ((if_neg c).trans (if_pos m))
    ·rw [if_neg m]
     exact zze ((if_neg c).trans (if_neg m))
   rw [ea]
   first|exact B'|exact hq
def zxq (A:Adr):Sp:=fun vs H Q _=>∃(L:Loc) (s:Sta) (x y z v:Int) (h c u:Nat),vs=[.ref L.bk,.int x,.int y,.int z,.int v]∧x=h∧-1≤y∧z=c∧v=u∧1≤h∧zw A H L s∧VM.SInv s∧zX A H L (VM.zY s (.cancelSome h (Vbemak.techArg y) c u)) Q
theorem zwq (T:Txt K mg A) (LM:zHj base mg A):zG P w K mg base CX0 8 A.zpl A.zIl ["book","account","choice","count","use"] (zxq A):=by
 have zsg:=@zMi P w K mg base A T
 have zW:=@z6b P w K mg base A T
 have zDg:=@zWi P w K mg base A T LM
 obtain ⟨zXc,zgb⟩:=T.zbc
 have nN:=z6j.nd
 refine T.zad.F.ok z6j (fun vs H Q E h=>?_) (fun cdv B outer s H vs Q E hr h=>?_)
 ·obtain ⟨L,s,x,y,z,v,h,c,u,rfl,_⟩:=h
  rfl
 ·obtain ⟨L,s,x,y,z,v,h,c,u,rfl,rfl,hy,rfl,rfl,h1,B,I,k⟩:=h
  have hu:=zM hr
  refine ⟨_,(zd (zI (zDb (zyb (zn zW hr T.z8 (za (pv 0) (za (pv 1) zb))))) (ze (zh (zA (za (zp (v:=.int (-5)) rfl zgb ⟨_,rfl⟩) zb)))) zx)
   (ze (zh (zn zDg hr T.zrc (za (pv 0) (za (pv 1) (za (pv 2) (za (pv 3) (za (zn zsg hr T.zpc (za (pv 1) (za (pv 4) zb))) zb))))))))),?_⟩
  refine ⟨_,rfl,_,rfl,L,s,_,rfl,B,_,rfl,?_⟩
  rw [←z3d h1]
  refine zmb (fun c1=>?_) fun c1=>?_
  ·have c1:Vbemak.isAccount s h=false:=by simpa using c1
   refine ⟨(by show 1≤sizeLine;decide),fun q hq=>?_⟩
   exact k.ref (zs:=[-5]) (z6 (if_pos c1)) B hq
  have c1:¬Vbemak.isAccount s h=false:=by simpa using c1
  refine ⟨_,rfl,_,rfl,_,rfl,_,rfl,_,rfl,_,rfl,_,_,rfl,fun p hp=>?_⟩
  have s1:=zq (o:=.tup [.int 3,.int h,.int u]) hp
  refine ⟨L,s,_,_,_,h,c,p,.cancelled h u,rfl,rfl,hy,rfl,B.same s1,I,zc,fun H' L' q B' hq kp=>?_⟩
  refine k H' L' q ?_ ?_ ⟨kp.bk,fun b o e n=>kp.keep b o (s1 _ _ e) n,fun b h=>(kp.sub b h).imp id fun z=>s1.free z⟩
  all_goals
   have ea:VM.zY s (.cancelSome h (Vbemak.techArg y) c u)=someR s h (Vbemak.techArg y) c (.cancelled h u):=by
    unfold someR
    by_cases m:Vbemak.count (Vbemak.sorted (Vbemak.liveOf s h (Vbemak.techArg y))) < c
    ·rw [if_pos m]
     exact z6 ((if_neg c1).trans (if_pos m))
    ·rw [if_neg m]
     exact zze ((if_neg c1).trans (if_neg m))
   rw [ea]
   first|exact B'|exact hq
end
end Pv
namespace Pv
open PySem PySem.Spec PyProof.Rows L2
open Vbemak (Call)
abbrev zGc (n:Nat):Key:=Sum.inl (n:Int)
theorem zeu {n m:Nat} (h:zGc n=zGc m):n=m:=by
 injection h with h
 exact Int.ofNat_inj.mp h
theorem zin {F:Addr→Ofr→Prop}:∀{as:List Addr} {os:List Ofr},Paired F as os→(okv as os).length=os.length
 |_,_,.nil=>rfl
 |_,_,.cons _ t=>by
  show (okv _ _).length + 1=_ + 1
  rw [zin t]
theorem zXj {F:Addr→Ofr→Prop} (n:Nat):∀{as:List Addr} {os:List Ofr},Paired F as os→
  (zLb (okv as os) (zGc n)=Option.none∧os.find? (fun x=>x.num==n)=Option.none)∨∃a x,zLb (okv as os) (zGc n)=some (.ref a)∧os.find? (fun x=>x.num==n)=some x∧F a x
 |_,_,.nil=>.inl ⟨rfl,rfl⟩
 |a::as,x::os,.cons r t=>by
  have ih:=zXj n t
  show (zLb ((zGc x.num,V.ref a)::okv as os) _=_∧_)∨_
  by_cases e:x.num=n
  ·refine .inr ⟨a,x,zRe (by show zGc x.num=_;rw [e]),?_,r⟩
   rw [List.find?_cons_of_pos (by rw [e];exact beq_self_eq_true n)]
  ·have e2:¬zGc x.num=zGc n:=fun q=>e (zeu q)
   have e3:¬(x.num==n)=true:=fun q=>e (eq_of_beq q)
   rw [List.find?_cons_of_neg (by exact e3)]
   rcases ih with ⟨h1,h2⟩|⟨a',x',h1,h2,h3⟩
   ·exact .inl ⟨(zud e2).trans h1,h2⟩
   ·exact .inr ⟨a',x',(zud e2).trans h1,h2,h3⟩
theorem z7t {F:Addr→Ofr→Prop} (n:Nat):∀{as:List Addr} {os:List Ofr},Paired F as os→∃bs,zhe (okv as os) (zGc n)=okv bs (os.filter fun y=>y.num != n)∧Paired F bs (os.filter fun y=>y.num != n)
 |_,_,.nil=>⟨[],rfl,.nil⟩
 |a::as,x::os,.cons r t=>by
  obtain ⟨bs,h1,h2⟩:=z7t n t
  show ∃bs,zhe ((zGc x.num,V.ref a)::okv as os) (zGc n)=_∧_
  by_cases e:x.num=n
  ·rw [zBy (show (zGc x.num,V.ref a).1=zGc n by rw [e]),List.filter_cons_of_neg (by simpa using e)]
   exact ⟨bs,h1,h2⟩
  ·rw [zpx (show ¬(zGc x.num,V.ref a).1=zGc n from fun q=>e (zeu q)),List.filter_cons_of_pos (by simpa using e),h1]
   exact ⟨a::bs,rfl,.cons r h2⟩
theorem zJz {F:Addr→Ofr→Prop} {as:List Addr} {os:List Ofr} (h:Paired F as os) (a:Addr) (x:Ofr):okv (as++[a]) (os++[x])=okv as os++[(zGc x.num,V.ref a)]:=by
 unfold okv
 rw [List.zip_append (zNb h),List.map_append]
 rfl
theorem zw.atOffs {K:PySem.W.Frag} {mg:Str→Option Value} {A:Adr} {H H':Hp} {L:Loc} {s:Sta} {os':List Ofr} {oas':List Addr} {kvs:List (Key×V)} (T:Txt K mg A) (B:zw A H L s) (h:H L.od=some (.dK kvs)) (k:But L.od H H') (h':H' L.od=some (.dK (okv oas' os'))) (p:Paired (zuk A.zab H') oas' os'):
  zw A H' L { s with offers:=os' }:=by
 have w:=zdu (A:=A) (xs:=kvs)
 obtain ⟨db,hb⟩:=B.book
 exact {
  book:=⟨db,k _ _ hb (zP h hb (fun z=>nomatch z))⟩
  devs:=k _ _ B.devs (zP h B.devs (fun z=>nomatch z))
  dev:=zQh k h (fun _ _ z=>nomatch z) B.dev
  nd:=B.nd
  tots:=by
   obtain ⟨kvs',h1,h2⟩:=B.tots
   exact ⟨kvs',k _ _ h1 (zP h h1 (fun z=>nomatch z)),h2⟩
  runs:=by
   obtain ⟨as,h1,h2⟩:=id B.runs
   exact zie k h w (zP h h1 (fun z=>nomatch z)) B.runs
  rne:=B.rne
  offs:=⟨oas',h',p⟩
  t1:=zDd k h w B.t1
  t2:=zDd k h w B.t2 }
section
variable {P:Program} {w:World} {K:PySem.W.Frag} {mg:Str→Option Value} {base:Heap} {A:Adr}
def zIs (A:Adr):Sp:=fun vs H Q _=>∃(L:Loc) (s:Sta) (x y z v:Int) (h g a b:Nat),vs=[.ref L.bk,.int x,.int y,.int z,.int v]∧x=h∧y=g∧z=a∧v=b∧1≤h∧1≤g∧1≤a∧zw A H L s∧VM.SInv s∧zX A H L (VM.zY s (.offer h g a b)) Q
theorem zzs (T:Txt K mg A):zG P w K mg base CX0 7 A.zHm A.zBm ["book","source","to","first","last"] (zIs A):=by
 have zTk:=@zNn P w K mg base A T
 have zW:=@z6b P w K mg base A T
 have zgt:=@zms P w K mg base A T
 have zWb:=@zyd P w K mg base A T
 have zId:=@z5f P w K mg base A T
 have zJt:=@zrs P w K mg base A T
 obtain ⟨zib,zF⟩:=T.zfb
 obtain ⟨zei,zcd⟩:=T.zig
 obtain ⟨z9A,z8r⟩:=T.zDl
 obtain ⟨zby,zum⟩:=T.zYg
 obtain ⟨zXc,zgb⟩:=T.zbc
 obtain ⟨zIj,zXd⟩:=T.zYe
 have nN:=zol.nd
 refine T.zvd.F.ok zol (fun vs H Q E h=>?_) (fun cdv B outer s H vs Q E hr h=>?_)
 ·obtain ⟨L,s,x,y,z,v,h,g,a,b,rfl,_⟩:=h
  rfl
 ·obtain ⟨L,s,x,y,z,v,h,g,a,b,rfl,rfl,rfl,rfl,rfl,h1,g1,a1,B,I,k⟩:=h
  have hu:=zM hr
  refine ⟨_,(zd (zI (PW.pt (zBh (zDb (zyb (zn zW hr T.z8 (za (pv 0) (za (pv 1) zb))))) (z3f (zDb (zyb (zn zW hr T.z8 (za (pv 0) (za (pv 2) zb)))))))) (ze (zh (zA (za (zp (v:=.int (-5)) rfl zgb ⟨_,rfl⟩) zb)))) zx)
   (zd (zI (zDb (zyb (zn zTk hr T.zHd (za (zf (pv 0) rfl) (za (pv 3) (za (pv 4) (za (pv 1) zb))))))) (ze (zh (zA (za (zp (v:=.int (-7)) rfl zXd ⟨_,rfl⟩) zb)))) zx)
   (zd (zI (PW.pt (zBh (zC zjn (z5 zdr (by rfl) T.zAd PySem.boot_len (za (zf (pv 0) rfl) zb)) (zp (v:=.int (32)) rfl z8r ⟨_,rfl⟩) (zE _)) (z3f (zC zjn (zf (pv 0) rfl) (zp (v:=.int (1000000000)) rfl zum ⟨_,rfl⟩) (zE _))))) (ze (zh (zA (za (zp (v:=.int (-4)) rfl zcd ⟨_,rfl⟩) zb)))) zx)
   (zd (zK (i:=5) nN rfl (Or.inl rfl) (zZ zdd (zf (pv 0) rfl) zm))
   (zd (zI (zDb (zyb (zn zId hr T.zUc (za (pv 0) (za (zn zWb hr T.zub (za (zf (pv 0) rfl) (za (pv 3) (za (pv 4) zb)))) (za (zn zgt hr T.zzd (za (pv 1) (za (pv 5) zb))) zb)))))) (ze (zh (zA (za (zp (v:=.int (-4)) rfl zcd ⟨_,rfl⟩) zb)))) zx)
   (zd (zdb (pv 0) (pv 5) rfl)
   (zd (zYq hu (zf (pv 0) rfl) (pv 5) (zYf T.zhu zJt (hr.mono (by decide)) rfl T.zHv T.zFm .nil zVe (za (pv 1) (za (pv 2) (za (pv 3) (za (pv 4) zb))))) rfl)
   (ze (zh (zA (za (zp (v:=.int (0)) rfl zF ⟨_,rfl⟩) (za (pv 5) zb)))))))))))),?_⟩
  obtain ⟨dx,hb⟩:=B.book
  have rl:s.runs.length≤10000:=Nat.le_trans I.nruns (by decide)
  refine ⟨_,rfl,_,rfl,L,s,_,rfl,B,_,rfl,?_⟩
  refine or3 (c2:=!decide ((g:Int)≤s.accounts)) (fun e=>⟨_,rfl,_,rfl,L,s,_,rfl,B,_,rfl,e⟩) (fun c=>?_) fun c=>?_
  ·refine ⟨(by show 1≤sizeLine;decide),fun q hq=>?_⟩
   exact k.ref (zs:=[-5]) (z6 (if_pos ((z8q h1 g1).mp c))) B hq
  have c:¬(Vbemak.isAccount s h=false∨Vbemak.isAccount s g=false):=fun z=>by rw [(z8q h1 g1).mpr z] at c;cases c
  refine ⟨_,rfl,L.bk,A.zg,dx,_,_,rfl,hb,T.zt,T.zR,zBb _ _ _ _ _ _ _ _ _ _,_,rfl,_,rfl,_,rfl,L.rl,s.runs,_,_,_,a,b,h,rfl,rfl,rfl,rfl,B.runs,rl,fun H1 s1=>?_⟩
  rw [zfm I]
  refine ⟨_,rfl,?_⟩
  have B1:=B.same s1
  refine zmb (fun cm=>?_) fun cm=>?_
  ·have cm:Vbemak.mine s h a b=false:=by simpa using cm
   refine ⟨(by show 1≤sizeLine;decide),fun q hq=>?_⟩
   exact k.fin (L':=L) (zs:=[-7]) (z6 ((if_neg c).trans (if_pos cm))) B1 (Keeps.same s1) hq
  have cm:¬Vbemak.mine s h a b=false:=by simpa using cm
  obtain ⟨m1,m2,m3⟩:=VM.z1m I (Bool.of_not_eq_false cm)
  obtain ⟨db,hb1⟩:=B1.book
  obtain ⟨oas,hod,hop⟩:=B1.offs
  refine ⟨_,rfl,L.bk,A.zg,db,_,_,rfl,hb1,T.zt,T.zqb,zjd _ _ _ _ _ _ _ _ _ _,L.od,_,rfl,hod,_,_,rfl,rfl,_,rfl,?_⟩
  rw [zin hop]
  refine or3 (c2:=decide ((s.offered:Int) ≥ 1000000000)) (fun e=>⟨_,rfl,L.bk,A.zg,db,_,_,rfl,hb1,T.zt,T.zWc,z2j _ _ _ _ _ _ _ _ _ _,_,_,rfl,rfl,_,rfl,e⟩) (fun c2=>?_) fun c2=>?_
  ·rw [Bool.or_eq_true,decide_eq_true_eq,decide_eq_true_eq] at c2
   refine ⟨(by show 1≤sizeLine;decide),fun q hq=>?_⟩
   exact k.fin (L':=L) (zs:=[-4]) (z6 ((if_neg c).trans ((if_neg cm).trans (if_pos (show 32≤s.offers.length∨1000000000≤s.offered by omega))))) B1 (Keeps.same s1) hq
  rw [Bool.or_eq_false_iff,decide_eq_false_iff_not,decide_eq_false_iff_not] at c2
  have ed:Vbemak.does s (.offer h g a b)=Vbemak.withRuns { s with offers:=s.offers++[⟨s.offered + 1,h,g,a,b⟩],offered:=s.offered + 1 } (Vbemak.changed a b (fun _=>.offered h (s.offered + 1)) s.runs) [((s.offered + 1:Nat):Int)]:=(if_neg c).trans ((if_neg cm).trans (if_neg (show ¬(32≤s.offers.length∨1000000000≤s.offered) by omega)))
  have ea:=zze ed
  rw [←VM.z8g I.tiles m1] at ea
  refine ⟨_,rfl,L.bk,A.zg,db,_,_,rfl,hb1,T.zt,T.zWc,z2j _ _ _ _ _ _ _ _ _ _,_,_,rfl,rfl,?_⟩
  refine ⟨_,rfl,_,rfl,L.bk,A.zg,db,_,_,rfl,hb1,T.zt,T.zR,zBb _ _ _ _ _ _ _ _ _ _,_,rfl,_,rfl,L.rl,s.runs,_,_,a,b,rfl,rfl,rfl,B1.runs,rl,fun H2 pl hpl s2=>?_⟩
  refine ⟨_,rfl,_,rfl,_,_,rfl,fun u hu=>?_⟩
  have s3:=zq (o:=.tup [.int 2,.int h,.int ((s.offered:Int) + 1)]) hu
  have ok:=VM.zAi (a:=a) (b:=b) I.tiles
  have B3:=(B1.same s2).same s3
  have sA:zB H _:=(s1.trans s2).trans s3
  refine ⟨L,s,pl,u,VM.zL a b s.runs,.offered h (s.offered + 1),rfl,B3,I.nruns,zyh s3 hpl,zc,ok.nd,fun p hp=>?_,Nat.le_trans (z4e a b s.runs) rl,fun c3 H4 s4=>?_,fun c3 H4 q' B4 k4=>?_⟩
  ·have:=ok.lo p hp
   have:=(VM.z7 I.tiles (ok.mem p hp)).1
   omega
  ·rw [if_pos c3] at ea
   refine ⟨_,rfl,zic ?_⟩
   refine ⟨(by show 1≤sizeLine;decide),fun q hq=>?_⟩
   exact k.fin (L':=L) (zs:=[-4]) ea (B3.same s4) (Keeps.same (sA.trans s4)) hq
  ·rw [if_neg c3] at ea
   generalize VM.z3c (VM.zjb (VM.zL a b s.runs)) (.offered h (s.offered + 1)) s.runs=l at ea B4
   refine ⟨_,rfl,zO ?_⟩
   obtain ⟨dc,hb4⟩:=B4.book
   refine ⟨_,rfl,_,rfl,L.bk,A.zg,dc,_,rfl,hb4,T.zt,T.zWc,zmf _ _ _ _ _ _ _ _ _ _,?_⟩
   have kb:=But.upd (l:=L.bk) (o:=.ins A.zg dc (zr "offers_made" (.int ((s.offered:Int) + 1)) (bf s.opened s.life s.window s.now s.accounts L.dl L.td q' L.od s.offered))) (H:=H4)
   have B5:zw A _ { L with rl:=q' } { s with runs:=l,offered:=s.offered + 1 }:=B4.fields T kb ⟨dc,zc⟩ rfl rfl rfl rfl
   refine ⟨_,rfl,_,rfl,_,rfl,_,rfl,?_⟩
   intro p dp np ndp nep
   refine ⟨p,dp,_,_,_,_,rfl,zc,fun H6 h6 k6=>⟨rfl,?_⟩⟩
   have s6:=zld np ndp k6
   have B6:=B5.same s6
   obtain ⟨dd,hb6⟩:=B6.book
   obtain ⟨oas6,hod6,hop6⟩:=B6.offs
   refine ⟨_,rfl,L.bk,A.zg,dd,_,_,rfl,hb6,T.zt,T.zqb,zjd _ _ _ _ _ _ _ _ _ _,_,rfl,L.od,_,rfl,zRk.k (k:=zGc (s.offered + 1)) hod6 ?_,?_⟩
   ·rw [zin hop6]
    exact Nat.lt_of_le_of_lt I.noff (by decide)
   have nn:zLb (okv oas6 s.offers) (zGc (s.offered + 1))=Option.none:=by
    rcases zXj (s.offered + 1) hop6 with ⟨z,_⟩|⟨_,x,_,z,_⟩
    ·exact z
    ·have z1:=List.find?_some z
     have z2:=(I.offn x (List.mem_of_find?_eq_some z)).2
     have z1:x.num=s.offered + 1:=by simpa using z1
     omega
   have ko:=But.upd (l:=L.od) (o:=.dK (putK (okv oas6 s.offers) (zGc (s.offered + 1)) (.ref p))) (H:=H6)
   have npo:p≠L.od:=zZb h6 hod6 (by intro z;cases z)
   have B7:=B6.atOffs (os':=s.offers++[⟨s.offered + 1,h,g,a,b⟩]) (oas':=oas6++[p]) T hod6 ko (by
    rw [zc,zNt _ nn,zJz hop6]) (Paired.snoc (zGf ko hod6 zdu hop6) ⟨dp,by rw [zi npo];exact h6⟩)
   refine ⟨_,rfl,(by show 2≤sizeLine;decide),fun q hq=>?_⟩
   refine k.fin (L':={ L with rl:=q' }) (zs:=[0,((s.offered + 1:Nat):Int)]) ea B7 ⟨rfl,fun b o e n=>?_,fun b h=>.inl h⟩ hq
   have n1:b≠L.bk:=fun z=>n (by rw [z];exact zif A L)
   have n2:b≠L.od:=fun z=>n (by rw [z];exact z6t A L)
   exact ko _ _ (s6 _ _ (kb _ _ (k4 _ _ (sA _ _ e) n1) n1)) n2
def zmt (A:Adr):Sp:=fun vs H Q _=>∃(L:Loc) (s:Sta) (y z:Int) (o h:Nat) (x:Ofr),vs=[.ref L.bk,.int y,.int z]∧y=o∧z=h∧zw A H L s∧VM.SInv s∧s.offers.find? (fun x=>x.num==o)=some x∧
 zX A H L ({ s with offers:=s.offers.filter fun y=>y.num != o,runs:=Vbemak.changed x.first x.last (fun _=>.live h) s.runs },[0]) Q
theorem zQm (T:Txt K mg A):zG P w K mg base CX0 7 A.zao A.zYn ["book","number","account"] (zmt A):=by
 have zsc:=@z6d P w K mg base A T
 have zWb:=@zyd P w K mg base A T
 have zId:=@z5f P w K mg base A T
 obtain ⟨zib,zF⟩:=T.zfb
 have nN:=zmm.nd
 refine T.zid.F.ok zmm (fun vs H Q E h=>?_) (fun cdv B outer s H vs Q E hr h=>?_)
 ·obtain ⟨L,s,y,z,o,h,x,rfl,_⟩:=h
  rfl
 ·obtain ⟨L,s,y,z,o,h,x,rfl,rfl,rfl,B,I,hx,k⟩:=h
  have hu:=zM hr
  refine ⟨_,(zd (zK (i:=3) nN rfl (Or.inl rfl) (zOy (zf (pv 0) rfl) (pv 1) ⟨rfl,rfl,rfl,rfl⟩))
   (zd (z4b (zn zId hr T.zUc (za (pv 0) (za (zn zWb hr T.zub (za (zf (pv 0) rfl) (za (zf (pv 3) rfl) (za (zf (pv 3) rfl) zb)))) (za (zn zsc hr T.zoc (za (pv 2) zb)) zb)))))
   (ze (zh (zA (za (zp (v:=.int (0)) rfl zF ⟨_,rfl⟩) zb)))))),?_⟩
  obtain ⟨dx,hb⟩:=B.book
  obtain ⟨oas,hod,hop⟩:=B.offs
  have rl:s.runs.length≤10000:=Nat.le_trans I.nruns (by decide)
  obtain ⟨a,x',v1,v2,da,hda⟩:∃a x',zLb (okv oas s.offers) (zGc o)=some (.ref a)∧s.offers.find? (fun x=>x.num==o)=some x'∧zuk A.zab H a x':=by
   rcases zXj o hop with ⟨_,q⟩|q
   ·rw [hx] at q
    cases q
   ·exact q
  rw [hx] at v2
  have v2:=Option.some.inj v2
  subst v2
  have hm:=List.mem_of_find?_eq_some hx
  obtain ⟨z1,z2,z3,z4⟩:=I.offr x hm
  obtain ⟨bs,d1,d2⟩:=z7t o hop
  refine ⟨_,rfl,L.bk,A.zg,dx,_,_,rfl,hb,T.zt,T.zqb,zjd _ _ _ _ _ _ _ _ _ _,L.od,rfl,.inl ⟨_,.inl hod⟩,_,rfl,_,zGc o,_,hod,rfl,v1,?_⟩
  have ko:=But.upd (l:=L.od) (o:=.dK (zhe (okv oas s.offers) (zGc o))) (H:=H)
  have B1:=B.atOffs (os':=s.offers.filter fun y=>y.num != o) (oas':=bs) T hod ko (by rw [zc,d1]) (zGf ko hod zdu d2)
  have hda1:=ko _ _ hda (zP hod hda (fun z=>nomatch z))
  obtain ⟨db,hb1⟩:=B1.book
  refine ⟨_,rfl,_,rfl,L.bk,A.zg,db,_,_,rfl,hb1,T.zt,T.zR,zBb _ _ _ _ _ _ _ _ _ _,_,rfl,a,A.zab,da,_,_,rfl,hda1,T.zKc,T.ztf,zZt _ _ _ _,_,rfl,a,A.zab,da,_,_,rfl,hda1,T.zKc,T.zZf,zMv _ _ _ _,L.rl,s.runs,_,_,x.first,x.last,rfl,rfl,rfl,B1.runs,rl,fun H2 pl hpl s2=>?_⟩
  refine ⟨_,rfl,_,rfl,fun u hu=>?_⟩
  have s3:=zq (o:=.tup [.int 1,.int h,.int 0]) hu
  have ok:=VM.zAi (a:=x.first) (b:=x.last) I.tiles
  have B3:=(B1.same s2).same s3
  have er:VM.z3c (VM.zjb (VM.zL x.first x.last s.runs)) (.live h) s.runs=Vbemak.changed x.first x.last (fun _=>.live h) s.runs:=VM.z8g I.tiles z2
  refine ⟨L,{ s with offers:=s.offers.filter fun y=>y.num != o },pl,u,VM.zL x.first x.last s.runs,.live h,rfl,B3,I.nruns,zyh s3 hpl,zc,ok.nd,fun p hp=>?_,Nat.le_trans (z4e x.first x.last s.runs) rl,fun c3 H4 s4=>?_,fun c3 H4 q' B4 k4=>?_⟩
  ·have:=ok.lo p hp
   have:=(VM.z7 I.tiles (ok.mem p hp)).1
   omega
  ·have c3:256 < (VM.z3c (VM.zjb (VM.zL x.first x.last s.runs)) (.live h) s.runs).length:=c3
   rw [er] at c3
   have:=VM.zpn I hm h
   omega
  ·have B4:zw A H4 { L with rl:=q' } { s with offers:=s.offers.filter fun y=>y.num != o,runs:=VM.z3c (VM.zjb (VM.zL x.first x.last s.runs)) (.live h) s.runs }:=B4
   rw [er] at B4
   refine ⟨(by show 1≤sizeLine;decide),fun q hq=>?_⟩
   refine k.fin (L':={ L with rl:=q' }) (zs:=[0]) rfl B4 ⟨rfl,fun b o e n=>?_,fun b h=>.inl h⟩ hq
   have n1:b≠L.bk:=fun z=>n (by rw [z];exact zif A L)
   have n2:b≠L.od:=fun z=>n (by rw [z];exact z6t A L)
   exact k4 _ _ (s3 _ _ (s2 _ _ (ko _ _ e n2))) n1
def z6x (A:Adr):Sp:=fun vs H Q _=>∃(L:Loc) (s:Sta) (y:Int) (o:Nat),vs=[.ref L.bk,.int y]∧y=o∧zw A H L s∧VM.SInv s∧zX A H L (VM.zY s (.accept o)) Q
def zjw (A:Adr):Sp:=fun vs H Q _=>∃(L:Loc) (s:Sta) (y:Int) (o:Nat),vs=[.ref L.bk,.int y]∧y=o∧zw A H L s∧VM.SInv s∧zX A H L (VM.zY s (.decline o)) Q
theorem zfy (T:Txt K mg A):zG P w K mg base CX0 8 A.znt A.ziu ["book","number"] (z6x A):=by
 have zEj:=@zQm P w K mg base A T
 obtain ⟨zuw,zUk⟩:=T.zFk
 have nN:=zer.nd
 refine T.zIf.F.ok zer (fun vs H Q E h=>?_) (fun cdv B outer s H vs Q E hr h=>?_)
 ·obtain ⟨L,s,y,o,rfl,_⟩:=h
  rfl
 ·obtain ⟨L,s,y,o,rfl,rfl,B,I,k⟩:=h
  have hu:=zM hr
  refine ⟨_,(zd (zI (zcp (zqm hu (pv 1) (zf (pv 0) rfl))) (ze (zh (zA (za (zp (v:=.int (-10)) rfl zUk ⟨_,rfl⟩) zb)))) zx)
   (ze (zh (zn zEj hr T.zid (za (pv 0) (za (pv 1) (za (zf (zdn hu (zf (pv 0) rfl) (pv 1) (fun _ _=>rfl)) rfl) zb))))))),?_⟩
  obtain ⟨dx,hb⟩:=B.book
  obtain ⟨oas,hod,hop⟩:=B.offs
  refine ⟨_,rfl,_,rfl,L.bk,A.zg,dx,_,_,rfl,hb,T.zt,T.zqb,zjd _ _ _ _ _ _ _ _ _ _,L.od,_,rfl,zpd.k (k:=zGc o) hod,_,rfl,?_⟩
  rcases zXj o hop with ⟨v1,v2⟩|⟨a,x,v1,v2,da,hda⟩
  ·rw [v1]
   refine zic ?_
   refine ⟨(by show 1≤sizeLine;decide),fun q hq=>?_⟩
   exact k.ref (zs:=[-10]) (z6 (by simp only [Vbemak.does,v2])) B hq
  ·rw [v1]
   refine zO ?_
   refine ⟨_,rfl,_,rfl,_,rfl,L.bk,A.zg,dx,_,_,rfl,hb,T.zt,T.zqb,zjd _ _ _ _ _ _ _ _ _ _,_,rfl,L.od,_,rfl,v1 ▸ zpd.k (k:=zGc o) hod,a,A.zab,da,_,_,rfl,hda,T.zKc,T.zIh,zaA _ _ _ _,?_⟩
   refine ⟨L,s,_,_,o,x.to_,x,rfl,rfl,rfl,B,I,v2,?_⟩
   have ea:VM.zY s (.accept o)=({ s with offers:=s.offers.filter fun y=>y.num != o,runs:=Vbemak.changed x.first x.last (fun _=>.live x.to_) s.runs },[0]):=by
    have e:Vbemak.does s (.accept o)=Vbemak.withRuns { s with offers:=s.offers.filter fun y=>y.num != o } (Vbemak.changed x.first x.last (fun _=>.live x.to_) s.runs) []:=by simp only [Vbemak.does,v2]
    rw [zze e,if_neg]
    have:=VM.zpn I (List.mem_of_find?_eq_some v2) x.to_
    omega
   rw [←ea]
   exact k
theorem zdx (T:Txt K mg A):zG P w K mg base CX0 8 A.z1r A.zAr ["book","number"] (zjw A):=by
 have zEj:=@zQm P w K mg base A T
 obtain ⟨zuw,zUk⟩:=T.zFk
 have nN:=z9o.nd
 refine T.zJe.F.ok z9o (fun vs H Q E h=>?_) (fun cdv B outer s H vs Q E hr h=>?_)
 ·obtain ⟨L,s,y,o,rfl,_⟩:=h
  rfl
 ·obtain ⟨L,s,y,o,rfl,rfl,B,I,k⟩:=h
  have hu:=zM hr
  refine ⟨_,(zd (zI (zcp (zqm hu (pv 1) (zf (pv 0) rfl))) (ze (zh (zA (za (zp (v:=.int (-10)) rfl zUk ⟨_,rfl⟩) zb)))) zx)
   (ze (zh (zn zEj hr T.zid (za (pv 0) (za (pv 1) (za (zf (zdn hu (zf (pv 0) rfl) (pv 1) (fun _ _=>rfl)) rfl) zb))))))),?_⟩
  obtain ⟨dx,hb⟩:=B.book
  obtain ⟨oas,hod,hop⟩:=B.offs
  refine ⟨_,rfl,_,rfl,L.bk,A.zg,dx,_,_,rfl,hb,T.zt,T.zqb,zjd _ _ _ _ _ _ _ _ _ _,L.od,_,rfl,zpd.k (k:=zGc o) hod,_,rfl,?_⟩
  rcases zXj o hop with ⟨v1,v2⟩|⟨a,x,v1,v2,da,hda⟩
  ·rw [v1]
   refine zic ?_
   refine ⟨(by show 1≤sizeLine;decide),fun q hq=>?_⟩
   exact k.ref (zs:=[-10]) (z6 (by simp only [Vbemak.does,v2])) B hq
  ·rw [v1]
   refine zO ?_
   refine ⟨_,rfl,_,rfl,_,rfl,L.bk,A.zg,dx,_,_,rfl,hb,T.zt,T.zqb,zjd _ _ _ _ _ _ _ _ _ _,_,rfl,L.od,_,rfl,v1 ▸ zpd.k (k:=zGc o) hod,a,A.zab,da,_,_,rfl,hda,T.zKc,T.z2e,zpr _ _ _ _,?_⟩
   refine ⟨L,s,_,_,o,x.from_,x,rfl,rfl,rfl,B,I,v2,?_⟩
   have ea:VM.zY s (.decline o)=({ s with offers:=s.offers.filter fun y=>y.num != o,runs:=Vbemak.changed x.first x.last (fun _=>.live x.from_) s.runs },[0]):=by
    have e:Vbemak.does s (.decline o)=Vbemak.withRuns { s with offers:=s.offers.filter fun y=>y.num != o } (Vbemak.changed x.first x.last (fun _=>.live x.from_) s.runs) []:=by simp only [Vbemak.does,v2]
    rw [zze e,if_neg]
    have:=VM.zpn I (List.mem_of_find?_eq_some v2) x.from_
    omega
   rw [←ea]
   exact k
end
end Pv
namespace Pv
open PySem PySem.Spec PyProof.Rows L2
open Vbemak (Call)
theorem zAw {life now:Nat} {r:Rn} (h:((!decide (V.int (st0 r.st)=V.int 1))&&(!decide (V.int (st0 r.st)=V.int 2)))=true):VM.zoe life now r=r.st:=by
 obtain ⟨a,b,d,m,st⟩:=r
 cases st<;>first|rfl|exact nomatch (show false=true from h)
theorem zPx {life now:Nat} {r:Rn} (h:((!decide (V.int (st0 r.st)=V.int 1))&&(!decide (V.int (st0 r.st)=V.int 2)))=false):∃x:Nat,st1 r.st=x∧VM.zoe life now r=if r.month + life≤now then .expired x else .live x:=by
 obtain ⟨a,b,d,m,st⟩:=r
 cases st with
 |live x=>exact ⟨x,rfl,rfl⟩
 |offered x o=>exact ⟨x,rfl,rfl⟩
 |cancelled x u=>exact nomatch (show true=false from h)
 |expired x=>exact nomatch (show true=false from h)
 |withdrawn x=>exact nomatch (show true=false from h)
theorem zzv (g:Rn→Ste):∀(l acc:List Rn),(l.foldl (fun acc r=>VM.zPb acc r r.first r.last (g r)) acc).length≤acc.length + l.length
 |[],acc=>Nat.le_refl _
 |r::l,acc=>by
  have h1:=zzv g l (VM.zPb acc r r.first r.last (g r))
  have h2:=VM.zUf acc r r.first r.last (g r)
  show (l.foldl (fun acc r=>VM.zPb acc r r.first r.last (g r)) (VM.zPb acc r r.first r.last (g r))).length≤acc.length + (l.length + 1)
  omega
theorem zsz (r:Rn):decide (V.int (st0 r.st)=V.int 4)=Vbemak.isExpired r:=by
 obtain ⟨a,b,d,m,st⟩:=r
 cases st<;>rfl
theorem zWr {l:List Rn} (h:∀r∈l,r.first≤r.last):(((l.filter fun r=>decide (V.int (st0 r.st)=V.int 4)).map fun r=>(r.last:Int) - r.first + 1).sum)=Vbemak.tally l Vbemak.isExpired:=by
 have e:(l.filter fun r=>decide (V.int (st0 r.st)=V.int 4))=l.filter Vbemak.isExpired:=List.filter_congr fun r _=>zsz r
 rw [e,VM.z2d fun r hr=>h r (List.mem_filter.mp hr).1]
 rfl
theorem zSl {A:Adr} {x pl:Addr} {o:HO} {H H':Hp} {ps:List Pm} (s:But x H H') (hx:H x=some o) (w:Own A o) (n:∀ys,o≠.lst ys) (n2:∀dx fs,o≠.ins A.zcb dx fs) (h:zNc A.zo A.zcb H pl ps):zNc A.zo A.zcb H' pl ps:=by
 obtain ⟨pas,h1,h2⟩:=h
 exact ⟨pas,s _ _ h1 (zP hx h1 (n _)),z1c (fun _ _ ⟨dp,ra,z1,z2⟩=>⟨dp,ra,s _ _ z1 (zP hx z1 (n2 _ _)),zPo s hx w z2⟩) h2⟩
section
variable {P:Program} {w:World} {K:PySem.W.Frag} {mg:Str→Option Value} {base:Heap} {A:Adr}
def ztu (A:Adr):Sp:=fun vs H Q _=>∃(a:Addr) (r:Rn) (x y:Int) (li no:Nat),vs=[.ref a,.int x,.int y]∧x=li∧y=no∧zQb A.zo H a r∧∀(H':Hp) (t:Addr),zbf H' t (VM.zoe li no r)→zB H H'→Q (.ref t) H'
theorem zlu (T:Txt K mg A):zG P w K mg base CX0 2 A.zIn A.zbo ["run","life","now"] (ztu A):=by
 have zYd:=@z7g P w K mg base A T
 have zIt:=@zhs P w K mg base A T
 have zsc:=@z6d P w K mg base A T
 have zFh:=@zKn P w K mg base A T
 obtain ⟨zMB,zYs⟩:=T.zKp
 obtain ⟨zur,zQg⟩:=T.zVg
 have nN:=z9l.nd
 refine T.zQd.F.ok z9l (fun vs H Q E h=>?_) (fun cdv B outer s H vs Q E hr h=>?_)
 ·obtain ⟨a,r,x,y,li,no,rfl,_⟩:=h
  rfl
 ·obtain ⟨a,r,x,y,li,no,rfl,rfl,rfl,hra,k⟩:=h
  have hu:=zM hr
  refine ⟨_,(zd (zI (PW.pt (z7p (zC zRw (zn zFh hr T.zed (za (pv 0) zb)) (zp (v:=.int (1)) rfl zYs ⟨_,rfl⟩) (zE _)) (zon (zC zRw (zn zFh hr T.zed (za (pv 0) zb)) (zp (v:=.int (2)) rfl zQg ⟨_,rfl⟩) (zE _))))) (ze (zh (zf (pv 0) rfl))) zx)
   (zd (zI (zC zLg (zZ zdd (zf (pv 0) rfl) (pv 1)) (pv 2) (zE _)) (ze (zh (zn zIt hr T.zxd (za (zn zYd hr T.zcc (za (pv 0) zb)) zb)))) zx)
   (ze (zh (zn zsc hr T.zoc (za (zn zYd hr T.zcc (za (pv 0) zb)) zb)))))),?_⟩
  obtain ⟨da,ta,ha,hta⟩:=id hra
  refine ⟨_,rfl,a,r,rfl,hra,rfl,_,rfl,?_⟩
  refine zyz (c2:=!decide (V.int (st0 r.st)=V.int 2)) (fun h=>⟨_,rfl,a,r,rfl,hra,rfl,_,rfl,h⟩) (fun c=>?_) fun c=>?_
  ·refine ⟨_,rfl,a,A.zo,da,_,_,rfl,ha,T.zJ,T.zvb,zFc _ _ _ _ _,?_⟩
   exact k H ta (by rw [zAw c];exact hta) (zB.refl _)
  obtain ⟨h,e1,e2⟩:=zPx (life:=li) (now:=no) c
  rw [e2] at k
  refine ⟨_,rfl,a,A.zo,da,_,_,rfl,ha,T.zJ,T.zec,z9d _ _ _ _ _,_,rfl,_,_,rfl,rfl,_,rfl,_,_,rfl,rfl,_,rfl,?_⟩
  refine zmb (fun c2=>?_) fun c2=>?_
  ·have c2:(r.month:Int) + (li:Int)≤(no:Int):=of_decide_eq_true c2
   rw [if_pos (by omega)] at k
   refine ⟨_,rfl,a,r,rfl,hra,?_⟩
   rw [e1]
   exact ⟨_,rfl,fun p hp=>k _ p zc (zq hp)⟩
  ·have c2:¬(r.month:Int) + (li:Int)≤(no:Int):=fun z=>c2 (decide_eq_true z)
   rw [if_neg (by omega)] at k
   refine ⟨_,rfl,a,r,rfl,hra,?_⟩
   rw [e1]
   exact ⟨_,rfl,fun p hp=>k _ p zc (zq hp)⟩
def z5w (A:Adr):Sp:=fun vs H Q _=>∃(l:Addr) (rs:List Rn) (x y:Int) (li no:Nat),vs=[.ref l,.int x,.int y]∧x=li∧y=no∧zU A.zo H l rs∧rs.length≤10000∧∀(H':Hp) (q:Addr),zU A.zo H' q (VM.atM (VM.zoe li no) rs)→H q=Option.none→zB H H'→Q (.ref q) H'
theorem zqw (T:Txt K mg A):zG P w K mg base CX0 5 A.zEr A.zSr ["runs","life","now"] (z5w A):=by
 have zle:=@z8j P w K mg base A T
 have zMu:=@zlu P w K mg base A T
 have nN:=zqp.nd
 refine T.zOe.F.ok zqp (fun vs H Q E h=>?_) (fun cdv B outer s H vs Q E hr h=>?_)
 ·obtain ⟨l,rs,x,y,li,no,rfl,_⟩:=h
  rfl
 ·obtain ⟨l,rs,x,y,li,no,rfl,rfl,rfl,⟨as,hl,hp⟩,hlen,k⟩:=h
  have hu:=zM hr
  refine ⟨_,(zd (zK (i:=3) nN rfl (Or.inl rfl) (zA zb))
   (zd (zMd PassesOwn.never rfl (zYb (pv 0)) (zrb (i:=4) nN rfl (Or.inl rfl)) (ze (z4b (zn zle hr T.z2b (za (pv 3) (za (pv 4) (za (zf (pv 4) rfl) (za (zf (pv 4) rfl) (za (zn zMu hr T.zQd (za (pv 4) (za (pv 1) (za (pv 2) zb)))) zb)))))))))
   (ze (zh (pv 3))))),?_⟩
  refine ⟨Nat.zero_le _,fun q hq=>?_⟩
  have s0:zB H (upd H q (.lst [])):=zq hq
  refine ⟨_,rfl,l,rfl,⟨_,SqL.of (s0 _ _ hl)⟩,zwd (K:=K) (a:=l) (xs:=as.map V.ref) (fun i σ H'=>∃v:Option V,σ=[some (.ref l),some (.int li),some (.int no),some (.ref q),v]∧zB H H'∧zU A.zo H' q ((rs.take i).foldl (fun acc r=>VM.zPb acc r r.first r.last (VM.zoe li no r)) []))
   ⟨none,rfl,s0,⟨[],zc,.nil⟩⟩ (fun i σ H' _ ⟨_,_,s1,_⟩=>SqL.of (s1 _ _ hl)) ?_ ?_⟩
  ·rintro i y σ H1 hi ⟨v,rfl,s1,hq1⟩
   obtain ⟨a,ha,rfl⟩:=zCc hi
   obtain ⟨r,hri,hra⟩:=pat hp ha
   have hra:=zeb s1 hra
   obtain ⟨da,ta,ha1,hta⟩:=id hra
   refine ⟨_,rfl,_,rfl,_,rfl,a,A.zo,da,_,_,rfl,ha1,T.zJ,T.znb,zBc _ _ _ _ _,_,rfl,a,A.zo,da,_,_,rfl,ha1,T.zJ,T.zXb,zGd _ _ _ _ _,_,rfl,_,rfl,_,rfl,a,r,_,_,li,no,rfl,rfl,rfl,hra,fun H2 t ht s2=>?_⟩
   have al:=zzv (VM.zoe li no) (rs.take i) []
   have tl:=zmd i rs
   obtain ⟨qs,hq1l,hq1p⟩:=id hq1
   refine ⟨q,a,t,_,r,_,_,r.first,r.last,VM.zoe li no r,rfl,rfl,rfl,zVc s2 hq1,zeb s2 hra,ht,?_,fun H3 h3 k3=>?_⟩
   ·exact Nat.lt_of_le_of_lt (Nat.le_trans al (Nat.le_of_eq (Nat.zero_add _))) (Nat.lt_of_le_of_lt (Nat.le_trans tl hlen) (by decide))
   ·refine ⟨_,rfl,fun b o e=>k3 _ _ (s2 _ _ (s1 _ _ e)) (zk e hq),?_⟩
    rw [take_snoc hri,List.foldl_append]
    exact h3
  ·rintro σ H1 ⟨v,rfl,s1,hq1⟩
   rw [List.length_map,zNb hp,List.take_length] at hq1
   exact ⟨_,rfl,k H1 q hq1 hq s1⟩
def zCA (A:Adr):Sp:=fun vs H Q _=>∃(L:Loc) (s:Sta) (y:Int) (m:Nat),vs=[.ref L.bk,.int y]∧y=m∧zw A H L s∧VM.SInv s∧zX A H L (VM.zY s (.tick m)) Q
theorem zoA (T:Txt K mg A):zG P w K mg base CX0 6 A.zXx A.zEx ["book","month"] (zCA A):=by
 have zEb:=@zBd P w K mg base A T
 have zUx:=@zqw P w K mg base A T
 have zGb:=@zsd P w K mg base A T
 obtain ⟨zib,zF⟩:=T.zfb
 obtain ⟨zRr,zLf⟩:=T.zJi
 obtain ⟨zul,zqe⟩:=T.zxf
 have nN:=zvv.nd
 refine T.zti.F.ok zvv (fun vs H Q E h=>?_) (fun cdv B outer s H vs Q E hr h=>?_)
 ·obtain ⟨L,s,y,m,rfl,_⟩:=h
  rfl
 ·obtain ⟨L,s,y,m,rfl,rfl,B,I,k⟩:=h
  have hu:=zM hr
  refine ⟨_,(zd (zI (zC zLg (pv 1) (zf (pv 0) rfl) (zE _)) (ze (zh (zA (za (zp (v:=.int (-9)) rfl zqe ⟨_,rfl⟩) zb)))) zx)
   (zd (zK (i:=2) nN rfl (Or.inl rfl) (zn zEb hr T.zwb (za (zn zGb hr T.zlb (za (zf (pv 0) rfl) (za (zp (v:=.int (4)) rfl zLf ⟨_,rfl⟩) zb))) zb)))
   (zd (zdb (pv 0) (pv 1) rfl)
   (zd (zdb (pv 0) zNo rfl)
   (zd (zdb (pv 0) (zn zUx hr T.zOe (za (zf (pv 0) rfl) (za (zf (pv 0) rfl) (za (pv 1) zb)))) rfl)
   (ze (zh (zA (za (zp (v:=.int (0)) rfl zF ⟨_,rfl⟩) (za (zZ zod (zn zEb hr T.zwb (za (zn zGb hr T.zlb (za (zf (pv 0) rfl) (za (zp (v:=.int (4)) rfl zLf ⟨_,rfl⟩) zb))) zb)) (pv 2)) zb)))))))))),?_⟩
  obtain ⟨dx,hb⟩:=B.book
  have rl:s.runs.length≤10000:=Nat.le_trans I.nruns (by decide)
  have fle:∀r∈s.runs,r.first≤r.last:=fun r hr=>(VM.z7 I.tiles hr).2.1
  refine ⟨_,rfl,_,rfl,L.bk,A.zg,dx,_,_,rfl,hb,T.zt,T.zgd,zPj _ _ _ _ _ _ _ _ _ _,_,_,rfl,rfl,_,rfl,?_⟩
  refine zmb (fun c=>?_) fun c=>?_
  ·have c:(m:Int)≤s.now:=of_decide_eq_true c
   refine ⟨(by show 1≤sizeLine;decide),fun q hq=>?_⟩
   exact k.ref (zs:=[-9]) (z6 (if_pos (by omega))) B hq
  have c:¬(m:Int)≤s.now:=fun z=>c (decide_eq_true z)
  have ea:VM.zY s (.tick m)=({ s with now:=m,offers:=[],runs:=Vbemak.ticked s.life m s.runs },0::[Vbemak.tally (Vbemak.ticked s.life m s.runs) Vbemak.isExpired - Vbemak.tally s.runs Vbemak.isExpired]):=zIc (if_neg (by omega))
  refine ⟨_,rfl,L.bk,A.zg,dx,_,_,rfl,hb,T.zt,T.zR,zBb _ _ _ _ _ _ _ _ _ _,L.rl,s.runs,_,rfl,B.runs,rl,fun H1 q1 hq1 hq10 s1=>?_⟩
  refine ⟨q1,_,rfl,hq1,Nat.le_trans (List.length_filter_le ..) rl,fun H2 s2=>?_⟩
  rw [zWr fle]
  have sA:=s1.trans s2
  have B2:=B.same sA
  obtain ⟨db,hb2⟩:=B2.book
  refine ⟨_,rfl,_,rfl,L.bk,A.zg,db,_,rfl,hb2,T.zt,T.zgd,zmf _ _ _ _ _ _ _ _ _ _,?_⟩
  have kb1:=But.upd (l:=L.bk) (o:=.ins A.zg db (zr "now" (.int m) (bf s.opened s.life s.window s.now s.accounts L.dl L.td L.rl L.od s.offered))) (H:=H2)
  have B3:zw A _ L { s with now:=m }:=B2.fields T kb1 ⟨db,zc⟩ rfl rfl rfl rfl
  intro d hd
  have s4:=zq (o:=.dK []) hd
  have B4:=B3.same s4
  obtain ⟨dc,hb4⟩:=B4.book
  refine ⟨_,rfl,L.bk,A.zg,dc,_,rfl,hb4,T.zt,T.zqb,zmf _ _ _ _ _ _ _ _ _ _,?_⟩
  have kb2:=But.upd (l:=L.bk) (o:=.ins A.zg dc (zr "offers" (.ref d) (bf s.opened s.life s.window m s.accounts L.dl L.td L.rl L.od s.offered))) (H:=upd (upd H2 L.bk (.ins A.zg db (zr "now" (.int m) (bf s.opened s.life s.window s.now s.accounts L.dl L.td L.rl L.od s.offered)))) d (.dK []))
  have ndb:d≠L.bk:=(zk (B3.book.choose_spec) hd).symm
  have r5:=B4.runsB T kb2
  have B5:zw A _ { L with rl:=L.rl,od:=d } { s with now:=m,offers:=[] }:=B4.atBook T kb2 ⟨dc,zc⟩ rfl rfl r5 B4.rne ⟨[],by rw [zi ndb];exact zc,.nil⟩
  refine ⟨_,rfl,L.bk,A.zg,dc,_,_,rfl,zc,T.zt,T.zR,zBb _ _ _ _ _ _ _ _ _ _,_,rfl,L.bk,A.zg,dc,_,_,rfl,zc,T.zt,T.zrf,zSv _ _ _ _ _ _ _ _ _ _,_,rfl,L.rl,s.runs,_,_,s.life,m,rfl,rfl,rfl,B5.runs,rl,fun H6 q hq hq0 s6=>?_⟩
  rw [←VM.zGw I.tiles] at hq
  have B6:=B5.same s6
  obtain ⟨dd,hb6⟩:=B6.book
  refine ⟨_,rfl,L.bk,A.zg,dd,_,rfl,hb6,T.zt,T.zR,zmf _ _ _ _ _ _ _ _ _ _,?_⟩
  have kb3:=But.upd (l:=L.bk) (o:=.ins A.zg dd (zr "runs" (.ref q) (bf s.opened s.life s.window m s.accounts L.dl L.td L.rl d s.offered))) (H:=H6)
  obtain ⟨qs,hql,hqp⟩:=id hq
  have r7:=zie kb3 hb6 (zIe T) (zP hb6 hql (fun z=>nomatch z)) hq
  have o7:=B6.offsB T kb3
  have B7:=B6.atBook (s':={ s with now:=m,offers:=[],runs:=Vbemak.ticked s.life m s.runs }) (rl':=q) (od':=d) T kb3 ⟨dd,zc⟩ rfl rfl r7 (zk B5.devs hq0).symm o7
  have I7:=I.tick m
  have rl7:(Vbemak.ticked s.life m s.runs).length≤10000:=Nat.le_trans I7.nruns (by decide)
  refine ⟨_,rfl,L.bk,A.zg,dd,_,_,rfl,zc,T.zt,T.zR,zBb _ _ _ _ _ _ _ _ _ _,q,_,_,rfl,r7,rl7,fun H8 q8 hq8 hq80 s8=>?_⟩
  refine ⟨q8,_,rfl,hq8,Nat.le_trans (List.length_filter_le ..) rl7,fun H9 s9=>?_⟩
  rw [zWr fun r hr=>(VM.z7 I7.tiles hr).2.1]
  refine ⟨_,rfl,_,_,rfl,rfl,(by show 2≤sizeLine;decide),fun q' hq'=>?_⟩
  refine k.fin (L':={ L with rl:=q,od:=d }) (zs:=[0,Vbemak.tally (Vbemak.ticked s.life m s.runs) Vbemak.isExpired - Vbemak.tally s.runs Vbemak.isExpired]) ea ((B7.same s8).same s9) ⟨rfl,fun b o e n=>?_,fun b h=>?_⟩ hq'
  ·have n1:b≠L.bk:=fun z=>n (by rw [z];exact zif A L)
   exact s9 _ _ (s8 _ _ (kb3 _ _ (s6 _ _ (kb2 _ _ (s4 _ _ (kb1 _ _ (sA _ _ e) n1)) n1)) n1))
  ·have hd0:H d=Option.none:=by
    cases e:H d with
    |none=>rfl
    |some o=>
     have:=kb1 _ _ (sA _ _ e) ndb
     rw [hd] at this
     cases this
   unfold Loc.own at h ⊢
   simp only [List.mem_cons] at h ⊢
   rcases h with z|z|z|z|z|z|z
   ·exact .inl (.inl z)
   ·exact .inl (.inr (.inl z))
   ·exact .inl (.inr (.inr (.inl z)))
   ·exact .inr (by rw [z];exact hd0)
   ·exact .inl (.inr (.inr (.inr (.inr (.inl z)))))
   ·exact .inl (.inr (.inr (.inr (.inr (.inr (.inl z))))))
   ·exact .inl (.inr (.inr (.inr (.inr (.inr (.inr z))))))
def zUw (A:Adr):Sp:=fun vs H Q _=>∃(a:Addr) (x:Dvc),vs=[.ref a]∧zxk A.zy H a x∧Q (.int (if (0:Int) > -x.balance then 0 else -x.balance)) H
theorem zfw (T:Txt K mg A):zG P w K mg base CX0 1 A.zzr A.zgr ["device"] (zUw A):=by
 have nN:=zRp.nd
 refine T.zFe.F.ok zRp (fun vs H Q E h=>?_) (fun cdv B outer s H vs Q E hr h=>?_)
 ·obtain ⟨a,x,rfl,_⟩:=h
  rfl
 ·obtain ⟨a,x,rfl,⟨da,ha⟩,k⟩:=h
  have hu:=zM hr
  refine ⟨_,(ze (zh (z5 (zPf rfl) (by rfl) T.zXk (by rfl) (za (zen zmk (zf (pv 0) rfl)) (za zm zb))))),?_⟩
  exact ⟨_,rfl,a,A.zy,da,_,_,rfl,ha,T.zbb,T.zKb,z4d _ _ _ _ _,_,rfl,_,_,rfl,k⟩
def z0u (A:Adr):Sp:=fun vs H Q _=>∃(L:Loc) (s:Sta) (x y:Int) (d c:Nat),vs=[.ref L.bk,.int x,.int y]∧x=d∧y=c∧1≤d∧1≤c∧zw A H L s∧VM.SInv s∧zX A H L (VM.zY s (.withdraw d c)) Q
theorem z1u (T:Txt K mg A):zG P w K mg base CX0 7 A.z6o A.z1p ["book","number","count"] (z0u A):=by
 have zFx:=@zfw P w K mg base A T
 have zTb:=@zWd P w K mg base A T
 have zIo:=@ztn P w K mg base A T
 have z1b:=@zEd P w K mg base A T
 have zEb:=@zBd P w K mg base A T
 have zId:=@z5f P w K mg base A T
 have zOc:=@zve P w K mg base A T
 have z4h:=@zyl P w K mg base A T
 have zLo:=@zCn P w K mg base A T
 obtain ⟨z8A,zds⟩:=T.zdl
 obtain ⟨zei,zcd⟩:=T.zig
 obtain ⟨zsf,zdc⟩:=T.zSd
 obtain ⟨zvx,zTm⟩:=T.zom
 obtain ⟨zmi,z0c⟩:=T.zTe
 have nN:=zdo.nd
 refine T.zfe.F.ok zdo (fun vs H Q E h=>?_) (fun cdv B outer s H vs Q E hr h=>?_)
 ·obtain ⟨L,s,x,y,d,c,rfl,_⟩:=h
  rfl
 ·obtain ⟨L,s,x,y,d,c,rfl,rfl,rfl,d1,c0,B,I,k⟩:=h
  have hu:=zM hr
  refine ⟨_,(zd (zI (zDb (zyb (zn z1b hr T.zOb (za (pv 0) (za (pv 1) zb))))) (ze (zh (zA (za (zp (v:=.int (-6)) rfl zdc ⟨_,rfl⟩) zb)))) zx)
   (zd (zK (i:=3) nN rfl (Or.inl rfl) (zn zTb hr T.zFb (za (pv 0) (za (pv 1) zb))))
   (zd (zI (zC zjn (zZ zXg (zp (v:=.int (1000)) rfl z0c ⟨_,rfl⟩) (zZ zod (pv 2) zm)) (zn zFx hr T.zFe (za (pv 3) zb)) (zE _)) (ze (zh (zA (za (zp (v:=.int (-11)) rfl zds ⟨_,rfl⟩) zb)))) zx)
   (zd (zso (i:=4) (tt:=(z8k (tOp rEq (z6h K (zAb 6) "device") (zAb 1)))) (te:=(zAb 6)) rfl nN rfl rfl (ztq rfl rfl rfl rfl) (zYb (zn zOc hr T.zSb (za (zf (pv 0) rfl) (za (zf (pv 3) rfl) zb)))) (z9c (own:=[("run",6)]) (by rfl)) (fun _ _ _ _ _=>(zrb (i:=6) nN rfl (Or.inl rfl))) (fun _ _ _ _ _=>(zJh (zC zMb (zf (pv 6) rfl) (pv 1) (zE _)))) (fun _ _ _ _ _=>(pv 6)))
   (zd (zI (zC zgn (zn zEb hr T.zwb (za (pv 4) zb)) (pv 2) (zE _)) (ze (zh (zA (za (zp (v:=.int (-8)) rfl zTm ⟨_,rfl⟩) zb)))) zx)
   (zd (zK (i:=5) nN rfl (Or.inl rfl) (zn zIo hr T.zgc (za (pv 4) (za (pv 2) zb))))
   (zd (zI (zDb (zyb (zn zId hr T.zUc (za (pv 0) (za (pv 5) (za (zn zLo hr T.zjc (za (zf (pv 3) rfl) zb)) zb)))))) (ze (zh (zA (za (zp (v:=.int (-4)) rfl zcd ⟨_,rfl⟩) zb)))) zx)
   (zd (zMf (pv 3) (zZ zXg (zp (v:=.int (1000)) rfl z0c ⟨_,rfl⟩) (pv 2)) zXm)
   (zd (zMf (pv 3) (pv 2) zXm)
   (ze (zh (zn z4h hr T.zTc (za (pv 5) zb))))))))))))),?_⟩
  obtain ⟨dx,hb⟩:=B.book
  have rl:s.runs.length≤10000:=Nat.le_trans I.nruns (by decide)
  refine ⟨_,rfl,_,rfl,L,s,_,rfl,B,_,rfl,?_⟩
  refine zmb (fun c1=>?_) fun c1=>?_
  ·have c1:¬(d:Int)≤s.devices.length:=by simpa using c1
   refine ⟨(by show 1≤sizeLine;decide),fun q hq=>?_⟩
   exact k.ref (zs:=[-6]) (z6 (by simp only [Vbemak.does,dev?_none c1])) B hq
  have c1:(d:Int)≤s.devices.length:=by simpa using c1
  obtain ⟨x,e1,e2⟩:=dev?_some d1 c1
  obtain ⟨a,ha,da,hda⟩:=B.devAt e2
  have el:(Vbemak.liveOf s x.owner none).filter (fun r=>r.device==d)=s.runs.filter fun r=>(r.device==d)&&decide (r.st=.live x.owner):=by
   unfold Vbemak.liveOf
   rw [List.filter_filter]
   refine List.filter_congr fun r _=>?_
   show ((r.device==d)&&(decide (r.st=.live x.owner)&&true))=_
   rw [Bool.and_true]
  have ed:Vbemak.does s (.withdraw d c)=if -x.balance≤1000 * ((c:Nat) - 1:Int) then .error (-11) else if Vbemak.count (s.runs.filter fun r=>(r.device==d)&&decide (r.st=.live x.owner)).reverse < c then .error (-8)
   else Vbemak.withRuns (Vbemak.changedDevice s d fun x=>{ x with withdrawn:=x.withdrawn + c,balance:=x.balance + 1000 * (c:Nat) })
    (Vbemak.changedAll (Vbemak.lasts c (s.runs.filter fun r=>(r.device==d)&&decide (r.st=.live x.owner)).reverse) (fun _=>.withdrawn x.owner) s.runs) (Vbemak.pairs (Vbemak.lasts c (s.runs.filter fun r=>(r.device==d)&&decide (r.st=.live x.owner)).reverse)):=by
   rw [←el]
   simp only [Vbemak.does,e1]
   rfl
  refine ⟨_,rfl,_,rfl,L,s,_,d,a,rfl,rfl,B,d1,ha,?_⟩
  refine ⟨_,rfl,_,_,rfl,rfl,_,_,rfl,rfl,.inl ⟨by decide,by decide⟩,_,rfl,a,x,rfl,⟨da,hda⟩,_,_,rfl,rfl,_,rfl,?_⟩
  refine zmb (fun c2=>?_) fun c2=>?_
  ·have c2:1000 * ((c:Int) - 1) ≥ (if (0:Int) > -x.balance then 0 else -x.balance):=of_decide_eq_true c2
   refine ⟨(by show 1≤sizeLine;decide),fun q hq=>?_⟩
   refine k.ref (zs:=[-11]) (z6 (ed.trans (if_pos ?_))) B hq
   by_cases z:(0:Int) > -x.balance
   ·rw [if_pos z] at c2
    omega
   ·rw [if_neg z] at c2
    omega
  have c2:¬1000 * ((c:Int) - 1) ≥ (if (0:Int) > -x.balance then 0 else -x.balance):=fun z=>c2 (decide_eq_true z)
  have c3:¬-x.balance≤1000 * ((c:Nat) - 1:Int):=by
   by_cases z:(0:Int) > -x.balance
   ·rw [if_pos z] at c2
    omega
   ·rw [if_neg z] at c2
    omega
  rw [if_neg c3] at ed
  refine ⟨_,rfl,L.bk,A.zg,dx,_,_,rfl,hb,T.zt,T.zR,zBb _ _ _ _ _ _ _ _ _ _,_,rfl,a,A.zy,da,_,_,rfl,hda,T.zbb,T.zJc,z3k _ _ _ _ _,L.rl,s.runs,_,x.owner,rfl,rfl,B.runs,rl,fun H1 q1 hq1 hq10 s1=>?_⟩
  obtain ⟨as,hq1l,hq1p⟩:=id hq1
  have fl1:(s.runs.filter fun r=>decide (r.st=.live x.owner)).length≤10000:=Nat.le_trans (List.length_filter_le ..) rl
  refine ⟨q1,rfl,⟨_,SqL.of hq1l⟩,fun D hD=>zUe (K:=K) (a:=q1) (xs:=as.map V.ref) (fun i H'=>zB H1 H'∧zU A.zo H' D (((s.runs.filter fun r:Rn=>decide (r.st=Vbemak.St.live x.owner)).take i).filter fun r:Rn=>r.device==d))
   ⟨zq hD,[],zc,.nil⟩ (fun i H' _ ⟨s2,_⟩=>SqL.of (s2 _ _ hq1l)) ?_ ?_⟩
  ·rintro i y H' hi ⟨s2,hD1⟩
   obtain ⟨b,hbi,rfl⟩:=zCc hi
   obtain ⟨r,hri,hrb⟩:=pat hq1p hbi
   have hrb:=zeb s2 hrb
   obtain ⟨db,tb,hb1,hb2⟩:=id hrb
   refine ⟨rfl,?_⟩
   refine ⟨_,rfl,b,A.zo,db,_,_,rfl,hb1,T.zJ,T.z0b,zLd _ _ _ _ _,_,rfl,rfl,_,rfl,?_⟩
   have et:decide (V.int (r.device:Int)=V.int (d:Int))=(r.device==d):=by
    rw [Bool.eq_iff_iff,decide_eq_true_eq,beq_iff_eq,V.int.injEq]
    omega
   rw [et]
   refine zmb (fun c=>?_) fun c=>?_
   ·refine ⟨_,rfl,?_⟩
    exact zRf hri hD s2 hD1 hrb c fl1
   ·exact ⟨s2,zKf hri hD1 c⟩
  rintro H2 ⟨s2,hD1⟩
  rw [List.length_map,zNb hq1p,List.take_length,List.filter_filter] at hD1
  generalize hrs:(s.runs.filter fun r=>(r.device==d)&&decide (r.st=.live x.owner))=rs at hD1 ed
  have rmem:∀r∈rs,r∈s.runs:=fun r hr=>by
   rw [←hrs] at hr
   exact (List.mem_filter.mp hr).1
  have rle:∀r∈rs,r.first≤r.last:=fun r hr=>(VM.z7 I.tiles (rmem r hr)).2.1
  have rlen:rs.length≤10000:=by
   rw [←hrs]
   exact Nat.le_trans (List.length_filter_le ..) rl
  have sA:=s1.trans s2
  have B2:=B.same sA
  rw [VM.zep (List.reverse_perm rs)] at ed
  refine ⟨_,rfl,D,rs,rfl,hD1,rlen,fun H3 s3=>?_⟩
  rw [VM.z2d rle]
  refine ⟨_,rfl,_,_,rfl,rfl,_,rfl,?_⟩
  have B3:=B2.same s3
  refine zmb (fun c4=>?_) fun c4=>?_
  ·have c4:((Vbemak.count rs:Nat):Int) < (c:Int):=of_decide_eq_true c4
   refine ⟨(by show 1≤sizeLine;decide),fun q hq=>?_⟩
   exact k.fin (L':=L) (zs:=[-8]) (z6 (ed.trans (if_pos (by omega)))) B3 (Keeps.same (sA.trans s3)) hq
  have c4:¬((Vbemak.count rs:Nat):Int) < (c:Int):=fun z=>c4 (decide_eq_true z)
  rw [if_neg (by omega)] at ed
  have ea:=zze ed
  refine ⟨_,rfl,_,rfl,D,rs,_,c,rfl,rfl,zVc s3 hD1,rle,rlen,fun H4 pl hpl hpl0 s4=>?_⟩
  have B4:=B3.same s4
  have sB:=(sA.trans s3).trans s4
  have hm:∀r∈rs.reverse,r∈s.runs:=fun r hr=>rmem r (List.mem_reverse.mp hr)
  have nd:((rs.reverse).map fun r=>r.first).Nodup:=by
   rw [List.map_reverse,←hrs]
   exact (List.reverse_perm _).nodup_iff.mpr (List.Sublist.nodup (VM.zOf List.filter_sublist) (VM.zkd I.tiles))
  have ok:=VM.zbu (c:=c) I.tiles hm nd
  have g1:VM.z3c (VM.zjb (VM.grM c rs.reverse)) (.withdrawn x.owner) s.runs=Vbemak.changedAll (Vbemak.lasts c rs.reverse) (fun _=>.withdrawn x.owner) s.runs:=by
   rw [←hrs]
   exact VM.zEw I.tiles I.apart
  have g2:(VM.grM c rs.reverse).map (fun p=>(p.first,p.last))=Vbemak.lasts c rs.reverse:=VM.zBi fun r hr=>rle r (List.mem_reverse.mp hr)
  rw [←g1,←g2,←zKr] at ea
  have plen3:(VM.grM c rs.reverse).length≤10000:=Nat.le_trans (z7m _ c) (by rw [List.length_reverse];exact rlen)
  generalize VM.grM c rs.reverse=ps at hpl ok ea plen3
  have hda4:=sB _ _ hda
  refine ⟨_,rfl,_,rfl,_,rfl,a,A.zy,da,_,_,rfl,hda4,T.zbb,T.zJc,z3k _ _ _ _ _,_,rfl,fun u hu=>?_⟩
  have s5:=zq (o:=.tup [.int 5,.int x.owner,.int 0]) hu
  have B5:=B4.same s5
  have sC:=sB.trans s5
  refine ⟨L,s,pl,u,ps,.withdrawn x.owner,rfl,B5,I.nruns,zyh s5 hpl,zc,ok.nd,fun p hp=>?_,plen3,fun c5 H6 s6=>?_,fun c5 H6 q' B6 k6=>?_⟩
  ·have:=ok.lo p hp
   have:=(VM.z7 I.tiles (ok.mem p hp)).1
   omega
  ·rw [if_pos c5] at ea
   refine ⟨_,rfl,zic ?_⟩
   refine ⟨(by show 1≤sizeLine;decide),fun q hq=>?_⟩
   exact k.fin (L':=L) (zs:=[-4]) ea (B5.same s6) (Keeps.same (sC.trans s6)) hq
  ·rw [if_neg c5] at ea
   generalize VM.z3c (VM.zjb ps) (.withdrawn x.owner) s.runs=l at ea B6
   refine ⟨_,rfl,zO ?_⟩
   obtain ⟨de,hb5⟩:=B5.book
   have hda6:=k6 _ _ (sC _ _ hda) (zP hb5 (sC _ _ hda) (fun z=>by injection z with z;exact T.zZd z.symm))
   have hpl6:=zSl k6 hb5 (zIe T) (fun _ z=>nomatch z) (fun _ _ z=>by injection z with z;exact T.zvi z) (zyh s5 hpl)
   refine ⟨_,rfl,a,A.zy,da,_,_,rfl,hda6,T.zbb,T.zKb,z4d _ _ _ _ _,_,rfl,_,_,rfl,rfl,.inl ⟨by decide,by decide⟩,_,_,rfl,rfl,da,_,hda6,zNj _ _ _ _ _,?_⟩
   have ka:=But.upd (l:=a) (o:=.ins A.zy da (zr "balance" (.int (x.balance + 1000 * (c:Int))) (df x.owner x.tech x.issued x.withdrawn x.balance))) (H:=H6)
   have B7:=B6.atDev (x':={ x with balance:=x.balance + 1000 * (c:Int) }) T ha e2 ka ⟨da,zc⟩
   have hpl7:=zSl ka hda6 (zGq T) (fun _ z=>nomatch z) (fun _ _ z=>by injection z with z;exact T.zwg z) hpl6
   refine ⟨_,rfl,a,A.zy,da,_,_,rfl,zc,T.zbb,T.zJd,zgm _ _ _ _ _,_,rfl,_,_,rfl,rfl,da,_,zc,zNj x.owner x.tech x.issued x.withdrawn (x.balance + 1000 * (c:Int)),?_⟩
   have kc:=But.upd (l:=a) (o:=.ins A.zy da (zr "withdrawn" (.int ((x.withdrawn:Int) + (c:Int))) (zr "balance" (.int (x.balance + 1000 * (c:Int))) (df x.owner x.tech x.issued x.withdrawn x.balance)))) (H:=upd H6 a (.ins A.zy da (zr "balance" (.int (x.balance + 1000 * (c:Int))) (df x.owner x.tech x.issued x.withdrawn x.balance))))
   have e3:(s.devices.set (d - 1) { x with balance:=x.balance + 1000 * (c:Int) })[d - 1]?=some { x with balance:=x.balance + 1000 * (c:Int) }:=List.getElem?_set_self (List.getElem?_eq_some_iff.mp e2).1
   have B8:=B7.atDev (x':={ x with balance:=x.balance + 1000 * (c:Int),withdrawn:=x.withdrawn + c }) T ha e3 kc ⟨da,zc⟩
   have hpl8:=zSl kc (show upd H6 a (.ins A.zy da (zr "balance" (.int (x.balance + 1000 * (c:Int))) (df x.owner x.tech x.issued x.withdrawn x.balance))) a=_ from zc) (zGq T) (fun _ z=>nomatch z) (fun _ _ z=>by injection z with z;exact T.zwg z) hpl7
   refine ⟨_,rfl,pl,ps,rfl,hpl8,plen3,fun H9 q hq9 s9=>?_⟩
   rw [ea] at k
   refine k H9 { L with rl:=q' } q ?_ hq9 ⟨rfl,fun b o e n=>?_,fun b h=>.inl h⟩
   ·refine zw.same ?_ s9
    unfold Vbemak.changedDevice
    rw [zme e2]
    have:=B8
    dsimp only at this
    rw [List.set_set] at this
    exact this
   ·have n1:b≠a:=fun z=>n (by rw [z];exact zbn ha)
    have n2:b≠L.bk:=fun z=>n (by rw [z];exact zif A L)
    exact s9 _ _ (kc _ _ (ka _ _ (k6 _ _ (sC _ _ e) n2) n1) n1)
end
end Pv
namespace L2
open PySem PySem.Spec PyProof.Rows PySem.Calls
section
variable {X:Cx}
def zSz:List V→Hp→VK→Prop:=fun vs H Q=>∃(a:Addr) (kvs:List (Key×V)) (ns:List Int),vs=[V.ref a]∧H a=some (.dK kvs)∧kvs.map (·.1)=ns.map Sum.inl∧
 ∀(ns':List Int) (p:Addr),ns'.Perm ns→ns'.Pairwise (·≤·)→H p=none→Q (.ref p) (upd H p (.lst (ns'.map V.int)))
theorem zkr:∀{ns:List Int} {us:List Value},us.length=ns.length→(∀(j:Nat) (v:Value),us[j]?=some v→∃n,ns[j]?=some n∧zKg (Sum.inl n) v=true)→IntsAre us ns
 |[],[],_,_=>.nil
 |n::ns,u::us,hl,h=>by
  obtain ⟨m,e,k⟩:=h 0 u rfl
  have e:n=m:=Option.some.inj e
  subst e
  rcases zac k with ⟨i,t,e1,e2⟩|⟨x,t,e1,_⟩
  ·injection e1 with e1
   subst e1
   subst e2
   exact .cons n t (zkr (by simpa using hl) fun j v q=>h (j + 1) v q)
  ·cases e1
theorem zhw (hc:X.calm=true):zag X (.builtin "sorted") zSz:=by
 intro pins s σ H vs us Q I r h
 obtain ⟨a,kvs,ns,rfl,ha,hk,q⟩:=h
 obtain ⟨u,rfl,ru⟩:=vals1 r
 cases ru
 obtain ⟨hz,hs,ws,kv,dd⟩:=zMs I.hok ha
 obtain ⟨ep,dt⟩:=dd.dictAt
 have hl:kvs.length=ws.length:=Paired.length kv
 have hn:ns.length=kvs.length:=by
  have:=congrArg List.length hk
  rw [List.length_map,List.length_map] at this
  omega
 refine call_function_entry kind_sorted plain_sorted entry_sorted (args_sorted1 _) ?_
 unfold Builtin.«sorted»
 refine wpAny_bind (m:=checkCount "sorted" 1 1 _) (wpAny_pure ?_)
 refine wpAny_bind (PySem.W.kdu_collect (A:=X.A.in1) (PySem.W.kdl_dict hs) (I.ok.hd hc) dt (by omega) fun h' tk acc hkeep hacc=>?_)
 have hla:acc.toList.length=ns.length:=by
  rw [Array.length_toList,hacc.1]
  omega
 have hI:IntsAre acc.toList ns:=zkr hla fun j v e=>by
  obtain ⟨k,x,e1,e2⟩:=hacc.2 j v (by rw [←Array.getElem?_toList];exact e)
  obtain ⟨p,ep1,ep2⟩:=zse kv e1
  have z:(kvs.map (·.1))[j]?=some p.1:=by
   rw [List.getElem?_map,ep1]
   rfl
  rw [hk,List.getElem?_map] at z
  cases en:ns[j]? with
  |none=>
   rw [en] at z
   cases z
  |some n=>
   rw [en] at z
   have z:Sum.inl n=p.1:=Option.some.inj z
   refine ⟨n,rfl,?_⟩
   rw [z,ep2.1]
   exact e2
 refine wpAny_bind (wpAny_newList ?_ (by rw [hla];omega))
 have hoL:(h'.push (seqObj "list" acc.toList.toArray 0)).get? h'.objs.size=some (seqObj "list" acc.toList.toArray 0):=Heap.get?_push_size _ rfl
 refine wpAny_bind (wpAny_holding (wpAny_call_entry slot_list_sort ⟨_,hoL,rfl⟩ entry_list_sort (list_sort_treeAny hoL hI (by rw [hla];omega) fun out ns' a1 a2 a3=>⟨_,rfl,?_⟩) (args_list_sort _)))
 obtain ⟨e,he⟩:=sortedHeap_at (out:=out) hoL
 have J:=I.kept (t':=tk) hkeep
 refine wpAny_pure ⟨_,rfl,?_⟩
 have hlen:(ns'.map V.int).length≤sizeLine:=by rw [List.length_map,a2.length_eq];omega
 refine ⟨.ref _,upd H h'.objs.size (.lst (ns'.map V.int)),J.laid (t':=tk) (fun b o hb=>?_) (Nat.le_refl _) ⟨hlen,out.toList,e,zam a1,he⟩,rfl,q ns' _ a2 a3 (J.hok.fresh (Nat.le_refl _))⟩
 have hlt:b < h'.objs.size:=Heap.lt_size hb
 rw [sortedHeap_old (Nat.ne_of_lt hlt) (by rw [size_push'];exact Nat.lt_succ_of_lt hlt),Heap.get?_push_ne _ _ _ (Nat.ne_of_lt hlt)]
 exact hb
end
end L2
namespace Pv
open PySem PySem.Spec PyProof.Rows L2
open Vbemak (Call)
theorem zX.got {A:Adr} {H H':Hp} {L:Loc} {s:Sta} {r:Sta×List Int} {Q:VK} {zs:List Int} (k:zX A H L r Q) (e:r=(s,zs)) (B:zw A H L s) (sm:zB H H') {q:Addr} (hq:H' q=some (.lst (zs.map V.int))):Q (.ref q) H':=by
 subst e
 exact k _ L q (B.same sm) hq (Keeps.same sm)
theorem zho (n:Nat):∀l:List Rn,Vbemak.runOf n l=((VM.zL n n l).head?).map fun p=>p.run
 |[]=>rfl
 |r::l=>by
  by_cases c:r.first≤n∧n≤r.last
  ·have e1:VM.between n n r=some (max r.first n,min r.last n):=if_pos (by omega)
   have e2:VM.zL n n (r::l)=⟨r,max r.first n,min r.last n⟩::VM.zL n n l:=by
    show (match VM.between n n r with
     |none=>VM.zL n n l
     |some p=>⟨r,p.1,p.2⟩::VM.zL n n l)=_
    rw [e1]
   rw [e2]
   exact List.find?_cons_of_pos (by rw [decide_eq_true c.1,decide_eq_true c.2];rfl)
  ·have e1:VM.between n n r=none:=if_neg (by omega)
   have e2:VM.zL n n (r::l)=VM.zL n n l:=by
    show (match VM.between n n r with
     |none=>VM.zL n n l
     |some p=>⟨r,p.1,p.2⟩::VM.zL n n l)=_
    rw [e1]
   rw [e2,←zho n l]
   exact List.find?_cons_of_neg (by
    rw [Bool.and_eq_true,decide_eq_true_eq,decide_eq_true_eq]
    exact c)
theorem z1s {α:Type} {f:α→List Int} {n:Nat} (h:∀x,(f x).length=n):∀l:List α,((l.map f).flatten).length=n * l.length
 |[]=>rfl
 |x::l=>by
  rw [List.map_cons,List.flatten_cons,List.length_append,h x,z1s h l,List.length_cons,Nat.mul_add]
  omega
theorem zWl {α:Type} (f:α→List Int) (pre:List Int) {rs:List α} {i:Nat} {r:α} (hri:rs[i]?=some r) {zs:List V} (hz:zs=(f r).map V.int):(pre++((rs.take i).map f).flatten).map V.int++zs=(pre++((rs.take (i + 1)).map f).flatten).map V.int:=by
 have e:((rs.take (i + 1)).map f).flatten=((rs.take i).map f).flatten++f r:=by
  rw [take_snoc hri,List.map_append,List.flatten_append,List.map_cons,List.map_nil,List.flatten_cons,List.flatten_nil,List.append_nil]
 rw [e,hz,←List.append_assoc]
 exact List.map_append.symm
theorem zTo {α:Type} {f:α→List Int} {n:Nat} (h:∀x,(f x).length=n) (pre:List Int) (hp:pre.length=2) (hn:n≤10) {rs:List α} {i m:Nat} (hl:rs.length≤10000) (hm:m=n):((pre++((rs.take i).map f).flatten).map V.int).length + m≤sizeLine:=by
 have t:=zmd i rs
 rw [List.length_map,List.length_append,z1s h,hp,hm]
 have e1:n * (rs.take i).length≤10 * 10000:=Nat.mul_le_mul hn (Nat.le_trans t hl)
 exact Nat.le_trans (show 2 + n * (rs.take i).length + n≤200000 by omega) (by decide)
section
variable {P:Program} {w:World} {K:PySem.W.Frag} {mg:Str→Option Value} {base:Heap} {A:Adr}
def zfz (A:Adr):Sp:=fun vs H Q _=>∃(L:Loc) (s:Sta) (x:Int) (n:Nat),vs=[.ref L.bk,.int x]∧x=n∧zw A H L s∧VM.SInv s∧zX A H L (VM.zY s (.where_ n)) Q
theorem zRy (T:Txt K mg A):zG P w K mg base CX0 4 A.zov A.zyv ["book","number"] (zfz A):=by
 have zWb:=@zyd P w K mg base A T
 obtain ⟨zib,zF⟩:=T.zfb
 obtain ⟨zIj,zXd⟩:=T.zYe
 have nN:=z0t.nd
 refine T.zrg.F.ok z0t (fun vs H Q E h=>?_) (fun cdv B outer s H vs Q E hr h=>?_)
 ·obtain ⟨L,s,x,n,rfl,_⟩:=h
  rfl
 ·obtain ⟨L,s,x,n,rfl,rfl,B,I,k⟩:=h
  have hu:=zM hr
  refine ⟨_,(zd (zK (i:=2) nN rfl (Or.inl rfl) (zn zWb hr T.zub (za (zf (pv 0) rfl) (za (pv 1) (za (pv 1) zb)))))
   (zd (zI (zDb (zDo (pv 2) (fun _=>rfl))) (ze (zh (zA (za (zp (v:=.int (-7)) rfl zXd ⟨_,rfl⟩) zb)))) zx)
   (zd (zK (i:=3) nN rfl (Or.inl rfl) (zf (zS zH (pv 2) zm (fun _ _=>rfl)) rfl))
   (ze (zh (zZ z2h (zZ z2h (zA (za (zp (v:=.int (0)) rfl zF ⟨_,rfl⟩) zb)) (zDr zLm rfl T.zmu rfl (za (zf (pv 3) rfl) zb))) (zA (za (zf (pv 3) rfl) (za (zf (pv 3) rfl) zb))))))))),?_⟩
  obtain ⟨dx,hb⟩:=B.book
  have rl:s.runs.length≤10000:=Nat.le_trans I.nruns (by decide)
  refine ⟨_,rfl,L.bk,A.zg,dx,_,_,rfl,hb,T.zt,T.zR,zBb _ _ _ _ _ _ _ _ _ _,_,rfl,_,rfl,L.rl,s.runs,_,_,n,n,rfl,rfl,rfl,B.runs,rl,fun H1 q hq s1=>?_⟩
  have er:=zho n s.runs
  obtain ⟨pas,hql,hqp⟩:=hq
  refine ⟨_,rfl,_,.inl ⟨_,SqL.of hql,rfl⟩,?_⟩
  generalize VM.zL n n s.runs=ps at hqp er
  cases hqp with
  |nil=>
   refine zic ?_
   refine ⟨(by show 1≤sizeLine;decide),fun q' hq'=>?_⟩
   have ea:VM.zY s (.where_ n)=(s,[-7]):=z6 (by simp only [Vbemak.does,er];rfl)
   exact k.got (zs:=[-7]) ea B (s1.trans (zq hq')) zc
  |@cons a p as ps pa rest=>
   refine zO ?_
   obtain ⟨dp,ra,e1,dr,ta,e2,e3⟩:=pa
   refine ⟨_,rfl,q,_,0,.ref a,rfl,rfl,SqL.of hql,at_of (j:=0) (v:=.ref a) rfl rfl,a,A.zcb,dp,_,_,rfl,e1,T.znd,T.z0f,zMt _ _ _,?_⟩
   refine ⟨(by show 1≤sizeLine;decide),fun l1 h1=>?_⟩
   have s2:=zq (o:=.lst [.int 0]) h1
   refine ⟨_,rfl,ra,A.zo,dr,_,_,rfl,s2 _ _ e2,T.zJ,T.zvb,zFc _ _ _ _ _,ta,_,rfl,.inr (SqT.of (s2 _ _ e3)),fun l2 h2=>?_⟩
   have s3:=zq (o:=.lst (stV p.run.st)) h2
   refine ⟨l1,l2,_,_,rfl,rfl,s3 _ _ zc,zc,?_,fun l3 h3=>?_⟩
   ·rw [znx]
    show 4≤sizeLine
    decide
   have s4:=zq (o:=.lst ([.int 0]++stV p.run.st)) h3
   have hr4:=s4 _ _ (s3 _ _ (s2 _ _ e2))
   refine ⟨_,rfl,ra,A.zo,dr,_,_,rfl,hr4,T.zJ,T.z0b,zLd _ _ _ _ _,_,rfl,ra,A.zo,dr,_,_,rfl,hr4,T.zJ,T.zec,z9d _ _ _ _ _,(by show 2≤sizeLine;decide),fun l4 h4=>?_⟩
   have s5:=zq (o:=.lst [.int p.run.device,.int p.run.month]) h4
   refine ⟨l3,l4,_,_,rfl,rfl,s5 _ _ zc,zc,?_,fun l5 h5=>?_⟩
   ·rw [znx]
    show 6≤sizeLine
    decide
   have ea:VM.zY s (.where_ n)=(s,0::(Vbemak.stNumbers p.run.st++[Vbemak.nat p.run.device,Vbemak.nat p.run.month])):=zIc (by simp only [Vbemak.does,er];rfl)
   refine k.got ea B ((((s1.trans s2).trans s3).trans s4).trans (s5.trans (zq h5))) ?_
   rw [zc]
   cases p.run.st<;>rfl
def z9w (A:Adr):Sp:=fun vs H Q _=>∃(L:Loc) (s:Sta) (x:Int) (h:Nat),vs=[.ref L.bk,.int x]∧x=h∧1≤h∧zw A H L s∧VM.SInv s∧zX A H L (VM.zY s (.holding h)) Q
theorem zpw (T:Txt K mg A):zG P w K mg base CX0 3 A.zmr A.z5r ["book","account"] (z9w A):=by
 have zW:=@z6b P w K mg base A T
 have zOc:=@zve P w K mg base A T
 obtain ⟨zib,zF⟩:=T.zfb
 obtain ⟨zXc,zgb⟩:=T.zbc
 have nN:=zNp.nd
 refine T.zAe.F.ok zNp (fun vs H Q E h=>?_) (fun cdv B outer s H vs Q E hr h=>?_)
 ·obtain ⟨L,s,x,h,rfl,_⟩:=h
  rfl
 ·obtain ⟨L,s,x,h,rfl,rfl,h1,B,I,k⟩:=h
  have hu:=zM hr
  refine ⟨_,(zd (zI (zDb (zyb (zn zW hr T.z8 (za (pv 0) (za (pv 1) zb))))) (ze (zh (zA (za (zp (v:=.int (-5)) rfl zgb ⟨_,rfl⟩) zb)))) zx)
   (zd (zK (i:=2) nN rfl (Or.inl rfl) (zn zOc hr T.zSb (za (zf (pv 0) rfl) (za (pv 1) zb))))
   (zd (zK (i:=3) nN rfl (Or.inl rfl) (zA (za (zp (v:=.int (0)) rfl zF ⟨_,rfl⟩) (za (z5 zxb (by rfl) T.zAd PySem.boot_len (za (pv 2) zb)) zb))))
   (zd (zMd PassesOwn.never rfl (zYb (pv 2)) (zrb (i:=4) nN rfl (Or.inl rfl)) (ze (z4b (z6f PySem.F.plainAttrs_list PySem.F.slot_list_extend PySem.F.type_list_extend zTg (pv 3) (za (zA (za (zf (pv 4) rfl) (za (zf (pv 4) rfl) (za (zf (pv 4) rfl) (za (zf (pv 4) rfl) zb))))) zb)))))
   (ze (zh (pv 3))))))),?_⟩
  obtain ⟨dx,hb⟩:=B.book
  have rl:s.runs.length≤10000:=Nat.le_trans I.nruns (by decide)
  refine ⟨_,rfl,_,rfl,L,s,_,rfl,B,_,rfl,?_⟩
  rw [←z3d h1]
  refine zmb (fun c=>?_) fun c=>?_
  ·refine ⟨(by show 1≤sizeLine;decide),fun q hq=>?_⟩
   exact k.ref (zs:=[-5]) (z6 (if_pos (by simpa using c))) B hq
  have c:¬Vbemak.isAccount s h=false:=by simpa using c
  have el:Vbemak.liveOf s h none=s.runs.filter fun r=>decide (r.st=.live h):=by
   unfold Vbemak.liveOf
   refine List.filter_congr fun r _=>?_
   exact Bool.and_true _
  have ea:VM.zY s (.holding h)=(s,0::Vbemak.rows ((Vbemak.liveOf s h none).map fun r=>[Vbemak.nat r.first,Vbemak.nat r.last,Vbemak.nat r.device,Vbemak.nat r.month])):=zIc (if_neg c)
  rw [el] at ea
  refine ⟨_,rfl,L.bk,A.zg,dx,_,_,rfl,hb,T.zt,T.zR,zBb _ _ _ _ _ _ _ _ _ _,_,rfl,L.rl,s.runs,_,h,rfl,rfl,B.runs,rl,fun H1 q1 hq1 hq10 s1=>?_⟩
  have ll:(s.runs.filter fun r=>decide (r.st=.live h)).length≤10000:=Nat.le_trans (List.length_filter_le ..) rl
  generalize (s.runs.filter fun r=>decide (r.st=.live h))=rs at ea hq1 ll
  obtain ⟨as,hl,hp⟩:=hq1
  refine ⟨_,rfl,q1,_,rfl,.inl (SqL.of hl),(by show 2≤sizeLine;decide),fun q hq=>?_⟩
  rw [List.length_map,zNb hp]
  have s2:=zq (o:=.lst [.int 0,.int (rs.length:Int)]) hq
  refine ⟨_,rfl,q1,rfl,⟨_,SqL.of (s2 _ _ hl)⟩,zwd (K:=K) (a:=q1) (xs:=as.map V.ref) (fun i σ H'=>∃v:Option V,σ=[some (.ref L.bk),some (.int h),some (.ref q1),some (.ref q),v]∧zB H1 H'∧H' q=some (.lst (([(0:Int),(rs.length:Int)]++((rs.take i).map fun r=>[Vbemak.nat r.first,Vbemak.nat r.last,Vbemak.nat r.device,Vbemak.nat r.month]).flatten).map V.int)))
   ⟨none,rfl,s2,zc⟩ (fun i σ H' _ ⟨_,_,z,_⟩=>SqL.of (z _ _ hl)) ?_ ?_⟩
  ·rintro i y σ H2 hi ⟨v,rfl,sA,hq2⟩
   obtain ⟨a,ha,rfl⟩:=zCc hi
   obtain ⟨r,hri,hra⟩:=pat hp ha
   obtain ⟨da,ta,ha1,_⟩:=zeb sA hra
   refine ⟨_,rfl,.inl ⟨rfl,_,SqL.of hq2⟩,_,rfl,a,A.zo,da,_,_,rfl,ha1,T.zJ,T.znb,zBc _ _ _ _ _,_,rfl,a,A.zo,da,_,_,rfl,ha1,T.zJ,T.zXb,zGd _ _ _ _ _,_,rfl,a,A.zo,da,_,_,rfl,ha1,T.zJ,T.z0b,zLd _ _ _ _ _,_,rfl,a,A.zo,da,_,_,rfl,ha1,T.zJ,T.zec,z9d _ _ _ _ _,(by show 4≤sizeLine;decide),fun u hu=>?_⟩
   have s3:=zq (o:=.lst [.int (r.first:Int),.int (r.last:Int),.int (r.device:Int),.int (r.month:Int)]) hu
   refine ⟨q,u,_,_,rfl,rfl,s3 _ _ hq2,zc,zTo (n:=4) (fun _=>rfl) _ rfl (by decide) ll rfl,?_⟩
   refine ⟨_,rfl,fun b o e=>?_,?_⟩
   ·rw [zi (zk e hq)]
    exact s3 _ _ (sA _ _ e)
   ·rw [zc]
    exact congrArg (fun z=>some (HO.lst z)) (zWl (fun r:Rn=>[Vbemak.nat r.first,Vbemak.nat r.last,Vbemak.nat r.device,Vbemak.nat r.month]) _ hri rfl)
  ·rintro σ H2 ⟨v,rfl,sA,hq2⟩
   rw [List.length_map,zNb hp,List.take_length] at hq2
   refine ⟨_,rfl,k.got ea B (s1.trans sA) ?_⟩
   rw [hq2]
   unfold Vbemak.rows
   rw [List.length_map]
   rfl
theorem zBv (u:Nat) (r:Rn):(decide (V.int (st0 r.st)=V.int 3)&&decide (V.int (st2 r.st)=V.int (u:Int)))=Vbemak.usedFor u r:=by
 obtain ⟨a,b,d,m,st⟩:=r
 cases st with
 |cancelled x v=>
  show (true&&decide (V.int (v:Int)=V.int (u:Int)))=(v==u)
  rw [Bool.true_and,Bool.eq_iff_iff,decide_eq_true_eq,beq_iff_eq,V.int.injEq]
  omega
 |live x=>rfl
 |offered x o=>rfl
 |expired x=>rfl
 |withdrawn x=>rfl
def zet (A:Adr):Sp:=fun vs H Q _=>∃(L:Loc) (s:Sta) (x:Int) (u:Nat),vs=[.ref L.bk,.int x]∧x=u∧zw A H L s∧VM.SInv s∧zX A H L (VM.zY s (.statement u)) Q
theorem zrt (T:Txt K mg A):zG P w K mg base CX0 4 A.zTn A.zfo ["book","use"] (zet A):=by
 have zYd:=@z7g P w K mg base A T
 have zbe:=@zVf P w K mg base A T
 obtain ⟨zib,zF⟩:=T.zfb
 have nN:=zPl.nd
 refine T.zNd.F.ok zPl (fun vs H Q E h=>?_) (fun cdv B outer s H vs Q E hr h=>?_)
 ·obtain ⟨L,s,x,u,rfl,_⟩:=h
  rfl
 ·obtain ⟨L,s,x,u,rfl,rfl,B,I,k⟩:=h
  have hu:=zM hr
  refine ⟨_,(zd (zK (i:=2) nN rfl (Or.inl rfl) (zn zbe hr T.ztb (za (zf (pv 0) rfl) (za (pv 1) zb))))
   (zd (zK (i:=3) nN rfl (Or.inl rfl) (zA (za (zp (v:=.int (0)) rfl zF ⟨_,rfl⟩) (za (z5 zxb (by rfl) T.zAd PySem.boot_len (za (pv 2) zb)) zb))))
   (zd (zMd PassesOwn.never rfl (zYb (pv 2)) (zrb (i:=4) nN rfl (Or.inl rfl)) (ze (z4b (z6f PySem.F.plainAttrs_list PySem.F.slot_list_extend PySem.F.type_list_extend zTg (pv 3) (za (zA (za (zf (pv 4) rfl) (za (zf (pv 4) rfl) (za (zn zYd hr T.zcc (za (pv 4) zb)) (za (zf (pv 4) rfl) (za (zf (pv 4) rfl) zb)))))) zb)))))
   (ze (zh (pv 3)))))),?_⟩
  obtain ⟨dx,hb⟩:=B.book
  have rl:s.runs.length≤10000:=Nat.le_trans I.nruns (by decide)
  have ea:VM.zY s (.statement u)=(s,0::Vbemak.rows ((s.runs.filter (Vbemak.usedFor u)).map fun r=>[Vbemak.nat r.first,Vbemak.nat r.last,(Vbemak.stNumbers r.st).getD 1 0,Vbemak.nat r.device,Vbemak.nat r.month])):=zIc rfl
  refine ⟨_,rfl,L.bk,A.zg,dx,_,_,rfl,hb,T.zt,T.zR,zBb _ _ _ _ _ _ _ _ _ _,_,rfl,L.rl,s.runs,_,rfl,B.runs,rl,fun H1 q1 hq1 hq10 s1=>?_⟩
  have ef:(s.runs.filter fun r=>decide (V.int (st0 r.st)=V.int 3)&&decide (V.int (st2 r.st)=V.int (u:Int)))=s.runs.filter (Vbemak.usedFor u):=List.filter_congr fun r _=>zBv u r
  rw [ef] at hq1
  have ll:(s.runs.filter (Vbemak.usedFor u)).length≤10000:=Nat.le_trans (List.length_filter_le ..) rl
  generalize s.runs.filter (Vbemak.usedFor u)=rs at ea hq1 ll
  obtain ⟨as,hl,hp⟩:=hq1
  refine ⟨_,rfl,q1,_,rfl,.inl (SqL.of hl),(by show 2≤sizeLine;decide),fun q hq=>?_⟩
  rw [List.length_map,zNb hp]
  have s2:=zq (o:=.lst [.int 0,.int (rs.length:Int)]) hq
  refine ⟨_,rfl,q1,rfl,⟨_,SqL.of (s2 _ _ hl)⟩,zwd (K:=K) (a:=q1) (xs:=as.map V.ref) (fun i σ H'=>∃v:Option V,σ=[some (.ref L.bk),some (.int u),some (.ref q1),some (.ref q),v]∧zB H1 H'∧H' q=some (.lst (([(0:Int),(rs.length:Int)]++((rs.take i).map fun r=>[Vbemak.nat r.first,Vbemak.nat r.last,(Vbemak.stNumbers r.st).getD 1 0,Vbemak.nat r.device,Vbemak.nat r.month]).flatten).map V.int)))
   ⟨none,rfl,s2,zc⟩ (fun i σ H' _ ⟨_,_,z,_⟩=>SqL.of (z _ _ hl)) ?_ ?_⟩
  ·rintro i y σ H2 hi ⟨v,rfl,sA,hq2⟩
   obtain ⟨a,ha,rfl⟩:=zCc hi
   obtain ⟨r,hri,hra⟩:=pat hp ha
   have hra:=zeb sA hra
   obtain ⟨da,ta,ha1,_⟩:=id hra
   refine ⟨_,rfl,.inl ⟨rfl,_,SqL.of hq2⟩,_,rfl,a,A.zo,da,_,_,rfl,ha1,T.zJ,T.znb,zBc _ _ _ _ _,_,rfl,a,A.zo,da,_,_,rfl,ha1,T.zJ,T.zXb,zGd _ _ _ _ _,_,rfl,a,r,rfl,hra,_,rfl,a,A.zo,da,_,_,rfl,ha1,T.zJ,T.z0b,zLd _ _ _ _ _,_,rfl,a,A.zo,da,_,_,rfl,ha1,T.zJ,T.zec,z9d _ _ _ _ _,(by show 5≤sizeLine;decide),fun g hg=>?_⟩
   have s3:=zq (o:=.lst [.int (r.first:Int),.int (r.last:Int),.int (st1 r.st),.int (r.device:Int),.int (r.month:Int)]) hg
   refine ⟨q,g,_,_,rfl,rfl,s3 _ _ hq2,zc,zTo (n:=5) (fun _=>rfl) _ rfl (by decide) ll rfl,?_⟩
   refine ⟨_,rfl,fun b o e=>?_,?_⟩
   ·rw [zi (zk e hq)]
    exact s3 _ _ (sA _ _ e)
   ·rw [zc]
    exact congrArg (fun z=>some (HO.lst z)) (zWl (fun r:Rn=>[Vbemak.nat r.first,Vbemak.nat r.last,(Vbemak.stNumbers r.st).getD 1 0,Vbemak.nat r.device,Vbemak.nat r.month]) _ hri rfl)
  ·rintro σ H2 ⟨v,rfl,sA,hq2⟩
   rw [List.length_map,zNb hp,List.take_length] at hq2
   refine ⟨_,rfl,k.got ea B (s1.trans sA) ?_⟩
   rw [hq2]
   unfold Vbemak.rows
   rw [List.length_map]
   rfl
theorem zDA (h:Nat) (r:Rn):(decide (V.int (st0 r.st)=V.int 2)&&decide (V.int (st1 r.st)=V.int (h:Int)))=(match r.st with
  |.offered g _=>g==h
  |_=>false):=by
 obtain ⟨a,b,d,m,st⟩:=r
 cases st with
 |offered x o=>
  show (true&&decide (V.int (x:Int)=V.int (h:Int)))=(x==h)
  rw [Bool.true_and,Bool.eq_iff_iff,decide_eq_true_eq,beq_iff_eq,V.int.injEq]
  omega
 |live x=>rfl
 |cancelled x o=>rfl
 |expired x=>rfl
 |withdrawn x=>rfl
def zrz (A:Adr):Sp:=fun vs H Q _=>∃(L:Loc) (s:Sta) (x z:Int) (h:Nat),vs=[.ref L.bk,.int x,.int z]∧x=h∧-1≤z∧1≤h∧zw A H L s∧VM.SInv s∧zX A H L (VM.zY s (.tally h (Vbemak.techArg z))) Q
theorem zXz (T:Txt K mg A):zG P w K mg base CX0 4 A.z1v A.zKv ["book","account","choice"] (zrz A):=by
 have zW:=@z6b P w K mg base A T
 have zEb:=@zBd P w K mg base A T
 have zXe:=@z0i P w K mg base A T
 have zOc:=@zve P w K mg base A T
 have zrn:=@z2l P w K mg base A T
 obtain ⟨zib,zF⟩:=T.zfb
 obtain ⟨zXc,zgb⟩:=T.zbc
 have nN:=zit.nd
 refine T.zzg.F.ok zit (fun vs H Q E h=>?_) (fun cdv B outer s H vs Q E hr h=>?_)
 ·obtain ⟨L,s,x,z,h,rfl,_⟩:=h
  rfl
 ·obtain ⟨L,s,x,z,h,rfl,rfl,hz,h1,B,I,k⟩:=h
  have hu:=zM hr
  refine ⟨_,(zd (zI (zDb (zyb (zn zW hr T.z8 (za (pv 0) (za (pv 1) zb))))) (ze (zh (zA (za (zp (v:=.int (-5)) rfl zgb ⟨_,rfl⟩) zb)))) zx)
   (zd (zK (i:=3) nN rfl (Or.inl rfl) (zn zXe hr T.z5b (za (pv 0) (za (zn zOc hr T.zSb (za (zf (pv 0) rfl) (za (pv 1) zb))) (za (pv 2) zb)))))
   (zd (zK (i:=4) nN rfl (Or.inl rfl) (zn zXe hr T.z5b (za (pv 0) (za (zn zrn hr T.z9b (za (zf (pv 0) rfl) (za (pv 1) zb))) (za (pv 2) zb)))))
   (ze (zh (zA (za (zp (v:=.int (0)) rfl zF ⟨_,rfl⟩) (za (zn zEb hr T.zwb (za (pv 3) zb)) (za (zn zEb hr T.zwb (za (pv 4) zb)) zb))))))))),?_⟩
  obtain ⟨dx,hb⟩:=B.book
  have rl:s.runs.length≤10000:=Nat.le_trans I.nruns (by decide)
  have fl:∀p:Rn→Bool,(s.runs.filter p).length≤10000:=fun p=>Nat.le_trans (List.length_filter_le ..) rl
  have fd:∀p:Rn→Bool,∀r∈s.runs.filter p,1≤r.device∧r.device≤s.devices.length:=fun p r hr=>zXq I (List.mem_filter.mp hr).1
  refine ⟨_,rfl,_,rfl,L,s,_,rfl,B,_,rfl,?_⟩
  rw [←z3d h1]
  refine zmb (fun c=>?_) fun c=>?_
  ·refine ⟨(by show 1≤sizeLine;decide),fun q hq=>?_⟩
   exact k.ref (zs:=[-5]) (z6 (if_pos (by simpa using c))) B hq
  have c:¬Vbemak.isAccount s h=false:=by simpa using c
  refine ⟨_,rfl,_,rfl,L.bk,A.zg,dx,_,_,rfl,hb,T.zt,T.zR,zBb _ _ _ _ _ _ _ _ _ _,_,rfl,L.rl,s.runs,_,h,rfl,rfl,B.runs,rl,fun H1 q1 hq1 hq10 s1=>?_⟩
  have B1:=B.same s1
  refine ⟨_,rfl,L,s,q1,_,z,rfl,hz,B1,hq1,fl _,fd _,fun H2 q2 hq2 s2=>?_⟩
  rw [z5n] at hq2
  have B2:=B1.same s2
  obtain ⟨d2,hb2⟩:=B2.book
  refine ⟨_,rfl,_,rfl,L.bk,A.zg,d2,_,_,rfl,hb2,T.zt,T.zR,zBb _ _ _ _ _ _ _ _ _ _,_,rfl,L.rl,s.runs,_,rfl,B2.runs,rl,fun H3 q3 hq3 hq30 s3=>?_⟩
  have B3:=B2.same s3
  refine ⟨_,rfl,L,s,q3,_,z,rfl,hz,B3,hq3,fl _,fd _,fun H4 q4 hq4 s4=>?_⟩
  rw [List.filter_filter] at hq4
  have fle:∀r∈s.runs,r.first≤r.last:=fun r hr=>(VM.z7 I.tiles hr).2.1
  refine ⟨_,rfl,q2,_,rfl,zVc s4 (zVc s3 hq2),fl _,fun H5 s5=>?_⟩
  refine ⟨_,rfl,q4,_,rfl,zVc s5 hq4,fl _,fun H6 s6=>?_⟩
  refine ⟨(by show 3≤sizeLine;decide),fun q hq=>?_⟩
  rw [VM.z2d (l:=Vbemak.liveOf s h (Vbemak.techArg z)) fun r hr=>fle r (VM.zWe hr).1,VM.z2d (l:=List.filter _ s.runs) fun r hr=>fle r (List.mem_filter.mp hr).1]
  have ea:VM.zY s (.tally h (Vbemak.techArg z))=(s,0::[Vbemak.nat (Vbemak.count (Vbemak.liveOf s h (Vbemak.techArg z))),Vbemak.tally s.runs fun r=>(match r.st with
   |.offered g _=>g==h
   |_=>false)&&(Vbemak.techArg z).all fun t=>Vbemak.techOf s r.device==t]):=zIc (if_neg c)
  refine k.got ea B ((((s1.trans s2).trans s3).trans s4).trans ((s5.trans s6).trans (zq hq))) ?_
  rw [zc]
  have ef:(s.runs.filter fun a=>zfn s (Vbemak.techArg z) a&&(decide (V.int (st0 a.st)=V.int 2)&&decide (V.int (st1 a.st)=V.int (h:Int))))=s.runs.filter fun r=>(match r.st with
   |.offered g _=>g==h
   |_=>false)&&(Vbemak.techArg z).all fun t=>Vbemak.techOf s r.device==t:=List.filter_congr fun r _=>by
    rw [zDA,Bool.and_comm]
    rfl
  rw [ef]
  rfl
def z5A (A:Adr):Sp:=fun vs H Q _=>∃(L:Loc) (s:Sta) (x:Int) (d:Nat),vs=[.ref L.bk,.int x]∧x=d∧1≤d∧zw A H L s∧VM.SInv s∧zX A H L (VM.zY s (.info d)) Q
theorem zBA (T:Txt K mg A):zG P w K mg base CX0 2 A.zuy A.zBx ["book","number"] (z5A A):=by
 have zTb:=@zWd P w K mg base A T
 have z1b:=@zEd P w K mg base A T
 obtain ⟨zib,zF⟩:=T.zfb
 obtain ⟨zsf,zdc⟩:=T.zSd
 have nN:=zTv.nd
 refine T.z8h.F.ok zTv (fun vs H Q E h=>?_) (fun cdv B outer s H vs Q E hr h=>?_)
 ·obtain ⟨L,s,x,d,rfl,_⟩:=h
  rfl
 ·obtain ⟨L,s,x,d,rfl,rfl,d1,B,I,k⟩:=h
  have hu:=zM hr
  refine ⟨_,(zd (zI (zDb (zyb (zn z1b hr T.zOb (za (pv 0) (za (pv 1) zb))))) (ze (zh (zA (za (zp (v:=.int (-6)) rfl zdc ⟨_,rfl⟩) zb)))) zx)
   (zd (zK (i:=2) nN rfl (Or.inl rfl) (zn zTb hr T.zFb (za (pv 0) (za (pv 1) zb))))
   (ze (zh (zA (za (zp (v:=.int (0)) rfl zF ⟨_,rfl⟩) (za (zf (pv 2) rfl) (za (zf (pv 2) rfl) (za (zf (pv 2) rfl) (za (zf (pv 2) rfl) (za (zf (pv 2) rfl) zb))))))))))),?_⟩
  refine ⟨_,rfl,_,rfl,L,s,_,rfl,B,_,rfl,?_⟩
  refine zmb (fun c=>?_) fun c=>?_
  ·have c:¬(d:Int)≤s.devices.length:=by simpa using c
   refine ⟨(by show 1≤sizeLine;decide),fun q hq=>?_⟩
   exact k.ref (zs:=[-6]) (z6 (by simp only [Vbemak.does,dev?_none c])) B hq
  have c:(d:Int)≤s.devices.length:=by simpa using c
  obtain ⟨x,e1,e2⟩:=dev?_some d1 c
  obtain ⟨a,ha,da,hda⟩:=B.devAt e2
  refine ⟨_,rfl,_,rfl,L,s,_,d,a,rfl,rfl,B,d1,ha,?_⟩
  refine ⟨_,rfl,a,A.zy,da,_,_,rfl,hda,T.zbb,T.zJc,z3k _ _ _ _ _,_,rfl,a,A.zy,da,_,_,rfl,hda,T.zbb,T.zZc,zUh _ _ _ _ _,_,rfl,a,A.zy,da,_,_,rfl,hda,T.zbb,T.zue,zZr _ _ _ _ _,_,rfl,a,A.zy,da,_,_,rfl,hda,T.zbb,T.zJd,zgm _ _ _ _ _,_,rfl,a,A.zy,da,_,_,rfl,hda,T.zbb,T.zKb,z4d _ _ _ _ _,(by show 6≤sizeLine;decide),fun q hq=>?_⟩
  exact k.ref (zs:=[0,Vbemak.nat x.owner,Vbemak.nat x.tech,Vbemak.nat x.issued,Vbemak.nat x.withdrawn,x.balance]) (zIc (by simp only [Vbemak.does,e1])) B hq
def zIq (A:Adr):Sp:=fun vs H Q _=>∃(L:Loc) (s:Sta) (x y:Int) (d m:Nat),vs=[.ref L.bk,.int x,.int y]∧x=d∧y=m∧1≤d∧zw A H L s∧VM.SInv s∧zX A H L (VM.zY s (.total d m)) Q
theorem znq (T:Txt K mg A):zG P w K mg base CX0 2 A.zsl A.zAl ["book","number","month"] (zIq A):=by
 have z1b:=@zEd P w K mg base A T
 obtain ⟨zib,zF⟩:=T.zfb
 obtain ⟨zsf,zdc⟩:=T.zSd
 have nN:=zRj.nd
 refine T.z8c.F.ok zRj (fun vs H Q E h=>?_) (fun cdv B outer s H vs Q E hr h=>?_)
 ·obtain ⟨L,s,x,y,d,m,rfl,_⟩:=h
  rfl
 ·obtain ⟨L,s,x,y,d,m,rfl,rfl,rfl,d1,B,I,k⟩:=h
  have hu:=zM hr
  refine ⟨_,(zd (zI (zDb (zyb (zn z1b hr T.zOb (za (pv 0) (za (pv 1) zb))))) (ze (zh (zA (za (zp (v:=.int (-6)) rfl zdc ⟨_,rfl⟩) zb)))) zx)
   (ze (zh (zA (za (zp (v:=.int (0)) rfl zF ⟨_,rfl⟩) (za (z3s hu (zf (pv 0) rfl) (zjf (za (pv 1) (za (pv 2) zb))) zm ⟨rfl,rfl,rfl,rfl⟩) zb)))))),?_⟩
  obtain ⟨dx,hb⟩:=B.book
  refine ⟨_,rfl,_,rfl,L,s,_,rfl,B,_,rfl,?_⟩
  refine zmb (fun c=>?_) fun c=>?_
  ·have c:¬(d:Int)≤s.devices.length:=by simpa using c
   refine ⟨(by show 1≤sizeLine;decide),fun q hq=>?_⟩
   exact k.ref (zs:=[-6]) (z6 (by simp only [Vbemak.does,dev?_none c];rfl)) B hq
  have c:(d:Int)≤s.devices.length:=by simpa using c
  obtain ⟨x,e1,e2⟩:=dev?_some d1 c
  obtain ⟨kv0,ht0,_⟩:=B.totsR I
  refine ⟨_,rfl,L.bk,A.zg,dx,_,_,rfl,hb,T.zt,T.zfc,zPe _ _ _ _ _ _ _ _ _ _,L.td,rfl,.inr ⟨_,.inl ht0⟩,_,rfl,_,rfl,(by show 2≤sizeLine;decide),fun u hu=>?_⟩
  have s1:zB H (upd H u (.tup [.int d,.int m])):=zq hu
  have B1:=B.same s1
  obtain ⟨kvs,htd,R⟩:=B1.totsR I
  have hu1:upd H u (.tup [.int d,.int m]) u=some (.tup ((zke d m).map kV)):=zc
  refine ⟨_,zpd.t (k:=zke d m) htd hu1,?_⟩
  rw [R.get d m s rfl]
  refine ⟨(by show 2≤sizeLine;decide),fun q hq=>?_⟩
  refine k.got (zs:=[0,Vbemak.totalOf s d m]) (zIc (by simp only [Vbemak.does,e1];rfl)) B (s1.trans (zq hq)) zc
end
end Pv
namespace Pv
open PySem PySem.Spec PyProof.Rows L2
open Vbemak (Call)
theorem zqv:∀{l m:List Int},l.Perm m→l.Pairwise (·≤·)→m.Pairwise (·≤·)→l=m
 |[],m,p,_,_=>(List.nil_perm.mp p).symm
 |a::l,[],p,_,_=>nomatch List.perm_nil.mp p
 |a::l,b::m,p,h,g=>by
  obtain ⟨h1,h2⟩:=List.pairwise_cons.mp h
  obtain ⟨g1,g2⟩:=List.pairwise_cons.mp g
  have e:a=b:=by
   have m1:b∈a::l:=p.mem_iff.mpr (List.mem_cons_self ..)
   have m2:a∈b::m:=p.mem_iff.mp (List.mem_cons_self ..)
   rcases List.mem_cons.mp m1 with e|m1
   ·exact e.symm
   rcases List.mem_cons.mp m2 with e|m2
   ·exact e
   exact Int.le_antisymm (h1 b m1) (g1 a m2)
  subst e
  rw [zqv (List.Perm.cons_inv p) h2 g2]
theorem zio {F:Addr→Ofr→Prop}:∀{as:List Addr} {os:List Ofr},Paired F as os→(okv as os).map (·.1)=(os.map fun o=>(o.num:Int)).map Sum.inl
 |_,_,.nil=>rfl
 |a::as,x::os,.cons _ t=>congrArg ((Sum.inl (x.num:Int):Key)::·) (zio t)
theorem zhx {F:Addr→Ofr→Prop}:∀{as:List Addr} {os:List Ofr} {i:Nat} {o:Ofr},Paired F as os→os[i]?=some o→∃a,(zGc o.num,V.ref a)∈okv as os∧F a o
 |_,_,i,o,.nil,h=>by simp at h
 |a::as,x::os,0,o,.cons r t,h=>by
  have h:x=o:=Option.some.inj h
  subst h
  exact ⟨a,List.mem_cons_self ..,r⟩
 |a::as,x::os,i + 1,o,.cons r t,h=>by
  obtain ⟨b,h1,h2⟩:=zhx (i:=i) t h
  exact ⟨b,List.mem_cons_of_mem _ h1,h2⟩
theorem zmB {F:Addr→Ofr→Prop} {as:List Addr} {os:List Ofr} (p:Paired F as os) (h:os.Pairwise fun a b=>a.num < b.num):((okv as os).map (·.1)).Nodup:=by
 rw [zio p,List.map_map]
 refine List.Pairwise.map _ (fun a b (q:a.num < b.num) z=>?_) h
 injection z with z
 have z:(a.num:Int)=b.num:=z
 omega
theorem zCd {α β:Type} {f:α→β} {l:List α} {i:Nat} {y:β} (h:(l.map f)[i]?=some y):∃x,l[i]?=some x∧f x=y:=by
 rw [List.getElem?_map] at h
 cases e:l[i]? with
 |none=>
  rw [e] at h
  cases h
 |some x=>
  rw [e] at h
  exact ⟨x,rfl,Option.some.inj h⟩
section
variable {P:Program} {w:World} {K:PySem.W.Frag} {mg:Str→Option Value} {base:Heap} {A:Adr}
def zSq (A:Adr):Sp:=fun vs H Q _=>∃(L:Loc) (s:Sta),vs=[.ref L.bk]∧zw A H L s∧VM.SInv s∧zX A H L (VM.zY s .offers) Q
theorem zCq (T:Txt K mg A):zG P w K mg base CX0 1 A.zgl A.zBl ["book"] (zSq A):=by
 obtain ⟨zib,zF⟩:=T.zfb
 have nN:=zok.nd
 refine T.zbd.F.ok zok (fun vs H Q E h=>?_) (fun cdv B outer s H vs Q E hr h=>?_)
 ·obtain ⟨L,s,rfl,_⟩:=h
  rfl
 ·obtain ⟨L,s,rfl,B,I,k⟩:=h
  have hu:=zM hr
  refine ⟨_,(zd (zK (i:=1) nN rfl (Or.inl rfl) (zA (za (zp (v:=.int (0)) rfl zF ⟨_,rfl⟩) (za (z5 zdr (by rfl) T.zAd PySem.boot_len (za (zf (pv 0) rfl) zb)) zb))))
   (zd (zMd PassesOwn.never rfl (zYb (z5 (zhw rfl) (by rfl) T.zGk L2.boot_sorted (za (zf (pv 0) rfl) zb))) (zrb (i:=2) nN rfl (Or.inl rfl)) (zd (zK (i:=3) nN rfl (Or.inl rfl) (zdn hu (zf (pv 0) rfl) (pv 2) (fun _ _=>rfl)))
   (ze (z4b (z6f PySem.F.plainAttrs_list PySem.F.slot_list_extend PySem.F.type_list_extend zTg (pv 1) (za (zA (za (pv 2) (za (zf (pv 3) rfl) (za (zf (pv 3) rfl) (za (zf (pv 3) rfl) (za (zf (pv 3) rfl) zb)))))) zb))))))
   (ze (zh (pv 1))))),?_⟩
  obtain ⟨dx,hb⟩:=B.book
  obtain ⟨oas,hod,hop⟩:=B.offs
  have ol:s.offers.length≤10000:=Nat.le_trans I.noff (by decide)
  have ea:VM.zY s .offers=(s,0::Vbemak.rows (s.offers.map fun o=>[Vbemak.nat o.num,Vbemak.nat o.from_,Vbemak.nat o.to_,Vbemak.nat o.first,Vbemak.nat o.last])):=zIc rfl
  refine ⟨_,rfl,L.bk,A.zg,dx,_,_,rfl,hb,T.zt,T.zqb,zjd _ _ _ _ _ _ _ _ _ _,L.od,_,rfl,hod,(by show 2≤sizeLine;decide),fun q hq=>?_⟩
  rw [zin hop]
  have s2:=zq (o:=.lst [.int 0,.int (s.offers.length:Int)]) hq
  have B2:=B.same s2
  refine ⟨_,rfl,L.bk,A.zg,dx,_,_,rfl,s2 _ _ hb,T.zt,T.zqb,zjd _ _ _ _ _ _ _ _ _ _,L.od,_,_,rfl,s2 _ _ hod,zio hop,fun ns' l hp hs hl=>?_⟩
  have en:ns'=s.offers.map fun o=>(o.num:Int):=zqv hp hs (List.Pairwise.map _ (fun a b (z:a.num < b.num)=>by omega) I.offs)
  subst en
  have s3:=zq (o:=.lst ((s.offers.map fun o=>(o.num:Int)).map V.int)) hl
  have sA:=s2.trans s3
  have qne:q≠l:=fun z=>by
   rw [←z,zc] at hl
   cases hl
  refine ⟨l,rfl,⟨_,SqL.of zc⟩,zwd (K:=K) (a:=l) (xs:=(s.offers.map fun o=>(o.num:Int)).map V.int) (fun i σ H'=>∃v v':Option V,σ=[some (.ref L.bk),some (.ref q),v,v']∧zB H H'∧H' l=some (.lst ((s.offers.map fun o=>(o.num:Int)).map V.int))∧H' q=some (.lst (([(0:Int),(s.offers.length:Int)]++((s.offers.take i).map fun o=>[Vbemak.nat o.num,Vbemak.nat o.from_,Vbemak.nat o.to_,Vbemak.nat o.first,Vbemak.nat o.last]).flatten).map V.int)))
   ⟨none,none,rfl,sA,zc,(zi qne).trans zc⟩ (fun i σ H' _ ⟨_,_,_,_,z,_⟩=>SqL.of z) ?_ ?_⟩
  ·rintro i y σ H2 hi ⟨v,v',rfl,s4,hl2,hq2⟩
   obtain ⟨n,hn,rfl⟩:=zCd hi
   obtain ⟨o,ho,rfl⟩:=zCd hn
   obtain ⟨a,hm,da,hda⟩:=zhx hop ho
   have B4:=B.same s4
   obtain ⟨db,hb4⟩:=B4.book
   have e1:=zPh (zmB hop I.offs) hm
   refine ⟨_,rfl,L.bk,A.zg,db,_,_,rfl,hb4,T.zt,T.zqb,zjd _ _ _ _ _ _ _ _ _ _,_,rfl,L.od,_,rfl,e1 ▸ zpd.k (k:=zGc o.num) (s4 _ _ hod),?_⟩
   have hda:=s4 _ _ hda
   refine ⟨_,rfl,.inl ⟨rfl,_,SqL.of hq2⟩,_,rfl,_,rfl,a,A.zab,da,_,_,rfl,hda,T.zKc,T.z2e,zpr _ _ _ _,_,rfl,a,A.zab,da,_,_,rfl,hda,T.zKc,T.zIh,zaA _ _ _ _,_,rfl,a,A.zab,da,_,_,rfl,hda,T.zKc,T.ztf,zZt _ _ _ _,_,rfl,a,A.zab,da,_,_,rfl,hda,T.zKc,T.zZf,zMv _ _ _ _,(by show 5≤sizeLine;decide),fun g hg=>?_⟩
   have s5:=zq (o:=.lst [.int (o.num:Int),.int (o.from_:Int),.int (o.to_:Int),.int (o.first:Int),.int (o.last:Int)]) hg
   refine ⟨q,g,_,_,rfl,rfl,s5 _ _ hq2,zc,zTo (n:=5) (fun _=>rfl) _ rfl (by decide) ol rfl,?_⟩
   refine ⟨_,_,rfl,fun b o e=>?_,?_,?_⟩
   ·rw [zi (zk e hq)]
    exact s5 _ _ (s4 _ _ e)
   ·rw [zi qne.symm]
    exact s5 _ _ hl2
   ·rw [zc]
    exact congrArg (fun z=>some (HO.lst z)) (zWl (fun o:Ofr=>[Vbemak.nat o.num,Vbemak.nat o.from_,Vbemak.nat o.to_,Vbemak.nat o.first,Vbemak.nat o.last]) _ ho rfl)
  ·rintro σ H2 ⟨v,v',rfl,s4,hl2,hq2⟩
   rw [List.length_map,List.length_map,List.take_length] at hq2
   refine ⟨_,rfl,k.got ea B s4 ?_⟩
   rw [hq2]
   unfold Vbemak.rows
   rw [List.length_map]
   rfl
def stF (s:Sta) (z:Int):Int:=((s.runs.filter fun r=>decide (V.int (st0 r.st)=V.int z)).map fun r=>(r.last:Int) - r.first + 1).sum
theorem zQl {s:Sta} (I:VM.SInv s) {z:Int} {p:Rn→Bool} (h:∀r:Rn,decide (V.int (st0 r.st)=V.int z)=p r):stF s z=Vbemak.tally s.runs p:=by
 unfold stF
 have e:(s.runs.filter fun r=>decide (V.int (st0 r.st)=V.int z))=s.runs.filter p:=List.filter_congr fun r _=>h r
 rw [e,VM.z2d fun r hr=>(VM.z7 I.tiles (List.mem_filter.mp hr).1).2.1]
 rfl
def zLA (A:Adr):Sp:=fun vs H Q _=>∃(L:Loc) (s:Sta),vs=[.ref L.bk]∧zw A H L s∧VM.SInv s∧zX A H L (VM.zY s .sums) Q
theorem ztA (T:Txt K mg A):zG P w K mg base CX0 3 A.zpy A.z0x ["book"] (zLA A):=by
 have zKd:=@zDf P w K mg base A T
 have zEb:=@zBd P w K mg base A T
 have zGb:=@zsd P w K mg base A T
 obtain ⟨zib,zF⟩:=T.zfb
 obtain ⟨zQn,zkf⟩:=T.zof
 obtain ⟨zRr,zLf⟩:=T.zJi
 obtain ⟨zMB,zYs⟩:=T.zKp
 obtain ⟨zur,zQg⟩:=T.zVg
 obtain ⟨zTu,zgj⟩:=T.zfj
 have nN:=zQv.nd
 refine T.zli.F.ok zQv (fun vs H Q E h=>?_) (fun cdv B outer s H vs Q E hr h=>?_)
 ·obtain ⟨L,s,rfl,_⟩:=h
  rfl
 ·obtain ⟨L,s,rfl,B,I,k⟩:=h
  have hu:=zM hr
  refine ⟨_,(zd (zK (i:=1) nN rfl (Or.inl rfl) (zjf (za (zp (v:=.int (1)) rfl zYs ⟨_,rfl⟩) (za (zp (v:=.int (2)) rfl zQg ⟨_,rfl⟩) (za (zp (v:=.int (3)) rfl zkf ⟨_,rfl⟩) (za (zp (v:=.int (4)) rfl zLf ⟨_,rfl⟩) (za (zp (v:=.int (5)) rfl zgj ⟨_,rfl⟩) zb)))))))
   (zd (zso (i:=2) (tt:=zSo) (te:=(zEh (zEl A) [] E0 (zVd (zEh (z5h A) [] E0 (zVd (z6h K (zAb 0) "runs") (zVd (zAb 3) zjh))) zjh))) rfl nN rfl rfl (ztq rfl rfl rfl rfl) (zSB (pv 1)) (z9c (own:=[("state",3)]) (by rfl)) (fun _ _ _ _ _=>(zrb (i:=3) nN rfl (Or.inl rfl))) (fun _ _ _ _ _=>zKh) (fun _ _ _ _ _=>(zn zEb hr T.zwb (za (zn zGb hr T.zlb (za (zf (pv 0) rfl) (za (pv 3) zb))) zb))))
   (ze (zh (zZ z2h (zZ z2h (zA (za (zp (v:=.int (0)) rfl zF ⟨_,rfl⟩) (za (zf (pv 0) rfl) (za (zn zKd hr T.zVb (za (zf (pv 0) rfl) zb)) zb)))) (pv 2)) (zA (za (z5 zxb (by rfl) T.zAd PySem.boot_len (za (zf (pv 0) rfl) zb)) zb))))))),?_⟩
  have rl:s.runs.length≤10000:=Nat.le_trans I.nruns (by decide)
  refine ⟨(by show 5≤sizeLine;decide),fun t ht=>?_⟩
  have s1:=zq (o:=.tup [.int 1,.int 2,.int 3,.int 4,.int 5]) ht
  have B1:=B.same s1
  refine ⟨_,rfl,t,rfl,⟨_,SqT.of zc⟩,fun D hD=>zcC (K:=K) (a:=t) (xs:=([1,2,3,4,5]:List Int).map V.int) (fun i H'=>zB (upd H t (.tup [.int 1,.int 2,.int 3,.int 4,.int 5])) H'∧H' D=some (.lst (((([1,2,3,4,5]:List Int).take i).map (stF s)).map V.int)))
   ⟨zq hD,zc⟩ (fun i H' _ ⟨s2,_⟩=>SqT.of (s2 _ _ zc)) ?_ ?_⟩
  ·rintro i y H' hi ⟨s2,hD1⟩
   obtain ⟨z,hz,rfl⟩:=zCd hi
   have B2:=B1.same s2
   obtain ⟨d2,hb2⟩:=B2.book
   refine ⟨rfl,?_⟩
   refine ⟨_,rfl,L.bk,A.zg,d2,_,_,rfl,hb2,T.zt,T.zR,zBb _ _ _ _ _ _ _ _ _ _,_,rfl,L.rl,s.runs,z,rfl,B2.runs,rl,fun H3 q3 hq3 hq30 s3=>?_⟩
   refine ⟨q3,_,rfl,hq3,Nat.le_trans (List.length_filter_le ..) rl,fun H4 s4=>?_⟩
   have s34:=s3.trans s4
   refine ⟨_,s34 _ _ hD1,?_,?_,?_⟩
   ·rw [List.length_map,List.length_map]
    exact Nat.lt_of_le_of_lt (zmd i _) (by show 5 < sizeLine;decide)
   ·exact fun b o e=>by rw [zi (zk e hD)];exact s34 _ _ (s2 _ _ e)
   ·rw [zc,take_snoc hz,List.map_append,List.map_append]
    rfl
  rintro H2 ⟨s2,hD1⟩
  have hD1:H2 D=some (.lst [.int (stF s 1),.int (stF s 2),.int (stF s 3),.int (stF s 4),.int (stF s 5)]):=hD1
  have B2:=B1.same s2
  obtain ⟨d2,hb2⟩:=B2.book
  refine ⟨_,rfl,L.bk,A.zg,d2,_,_,rfl,hb2,T.zt,T.zgd,zPj _ _ _ _ _ _ _ _ _ _,_,rfl,L.bk,A.zg,d2,_,_,rfl,hb2,T.zt,T.zR,zBb _ _ _ _ _ _ _ _ _ _,L.rl,s.runs,rfl,B2.runs,(by show 3≤sizeLine;decide),fun q3 hq3=>?_⟩
  rw [z5k I]
  have s3:=zq (o:=.lst [.int 0,.int (s.now:Int),.int (s.given:Int)]) hq3
  refine ⟨_,rfl,q3,D,_,_,rfl,rfl,zc,s3 _ _ hD1,(by show 8≤sizeLine;decide),fun q4 hq4=>?_⟩
  have s4:=zq (o:=.lst ([.int 0,.int (s.now:Int),.int (s.given:Int)]++[.int (stF s 1),.int (stF s 2),.int (stF s 3),.int (stF s 4),.int (stF s 5)])) hq4
  have B4:=(B2.same s3).same s4
  obtain ⟨d4,hb4⟩:=B4.book
  obtain ⟨as,hl,hp⟩:=id B4.runs
  refine ⟨_,rfl,L.bk,A.zg,d4,_,_,rfl,hb4,T.zt,T.zR,zBb _ _ _ _ _ _ _ _ _ _,L.rl,_,rfl,.inl (SqL.of hl),(by show 1≤sizeLine;decide),fun q5 hq5=>?_⟩
  rw [List.length_map,zNb hp]
  have s5:=zq (o:=.lst [.int (s.runs.length:Int)]) hq5
  refine ⟨q4,q5,_,_,rfl,rfl,s5 _ _ zc,zc,(by show 9≤sizeLine;decide),fun q6 hq6=>?_⟩
  have ea:VM.zY s .sums=(s,0::[Vbemak.nat s.now,Vbemak.nat s.given,Vbemak.tally s.runs Vbemak.isLive,Vbemak.tally s.runs Vbemak.isOffered,Vbemak.tally s.runs Vbemak.isCancelled,Vbemak.tally s.runs Vbemak.isExpired,Vbemak.tally s.runs Vbemak.isWithdrawn,Vbemak.nat s.runs.length]):=zIc rfl
  refine k.got ea B ((((s1.trans s2).trans s3).trans s4).trans (s5.trans (zq hq6))) ?_
  rw [zc,←zQl I (z:=1) (p:=Vbemak.isLive) (fun ⟨_,_,_,_,st⟩=>by cases st<;>rfl),←zQl I (z:=2) (p:=Vbemak.isOffered) (fun ⟨_,_,_,_,st⟩=>by cases st<;>rfl),
   ←zQl I (z:=3) (p:=Vbemak.isCancelled) (fun ⟨_,_,_,_,st⟩=>by cases st<;>rfl),←zQl I (z:=4) (p:=Vbemak.isExpired) (fun ⟨_,_,_,_,st⟩=>by cases st<;>rfl),←zQl I (z:=5) (p:=Vbemak.isWithdrawn) (fun ⟨_,_,_,_,st⟩=>by cases st<;>rfl)]
  rfl
end
end Pv
namespace L2
open PySem PySem.Spec PyProof.Rows PySem.Calls
open PySem.W (CodeHd tabObj kla_obj kla_fn envX)
section
variable {prog:Program} {w:World} {A:Around} {E:Value→Shared→Prop} {s:Shared}
theorem zKu {R:List Value→Shared→Prop} {r:Addr} {a b c:Int} {t u v:Tok} {n:Nat} (hh:A.handled=none) (hr:IsRange s.heap r a b c t u v) (hsmall:Builtin.Range.small a b c=true)
  (hn:Builtin.Range.rangeSize a b c=n) (hlen:n≤2 ^ 24)
  (h:∀(h':Heap) (tk:Nat) (acc:Array Value),(∀b o,s.heap.get? b=some o→h'.get? b=some o)→ItemsOf (fun i v=>∃t,v=.int (a + i * c) t) acc n→R acc.toList { s with heap:=h',toks:=tk }):
  wpAny (model prog w) A (collect (.ref r)) R E s:=by
 unfold collect
 refine wpAny_bind (wpAny_runValue (codeAny_builtin entry_proto_collect' ?_))
 rw [Around.under_plainId PySem.F.plain_proto_collect _]
 show wpAny _ A.in1 (newList [] >>= fun l=>again (.builtin "list.__iadd__" ⟨[l,.ref r],[]⟩)) _ _ s
 refine wpAny_bind (wpAny_newObj_type ?_)
 refine wpAny_pure ⟨plainId_quiet PySem.F.plain_list_iadd _,codeAny_builtin entry_list_iadd' ?_⟩
 rw [Around.under_plainId PySem.F.plain_list_iadd _]
 have hS₁:(s.heap.push { cls:=.type "list",data:=.seq ([]:List Value).toArray }).get? s.heap.objs.size=some { cls:=.type "list",data:=.seq #[] }:=Heap.get?_push_size _ rfl
 show wpAny _ A.in1 (Builtin.List.listExtendWith (.ref s.heap.objs.size) (.ref r) (.ref s.heap.objs.size)) _ _ _
 have key:=wpAny_extend_range (prog:=prog) (w:=w) (A:=A) (s:={ s with heap:=s.heap.push { cls:=.type "list",data:=.seq ([]:List Value).toArray } })
  (R:=fun (q:Result) (s':Shared)=>∃(h':Heap) (tk:Nat) (acc':Array Value) (c':Nat),q=.ok (.ret (.ref s.heap.objs.size))∧s'={ s with heap:=h',toks:=tk }∧
   (∀b o,s.heap.get? b=some o→h'.get? b=some o)∧h'.get? s.heap.objs.size=some { cls:=.type "list",dict:=none,data:=.seq acc' c',slots:=#[] }∧ItemsOf (fun i v=>∃t,v=.int (a + i * c) t) acc' n)
  hh (Heap.get?_push_of_some _ hr) hsmall hn hlen s.heap.objs.size (.ref s.heap.objs.size) 0 hS₁
  (fun h' tk acc' c' hk hS' hacc=>⟨h',tk,acc',c',rfl,rfl,fun b o e=>hk b o (Nat.ne_of_lt (Heap.lt_size e)) (Heap.get?_push_of_some _ e),hS',hacc⟩)
 refine wpAny_mono key (fun fin s' x=>?_) fun e s' x=>?_
 ·cases fin with
  |done f=>
   obtain ⟨h',tk,acc',c',e,rfl,hk,hS',hacc⟩:=x
   cases e
   show wpAny _ A (load s.heap.objs.size >>= _) _ _ _
   refine wpAny_bind (wpAny_load hS' ?_)
   exact wpAny_pure (h h' tk acc' hk hacc)
  |again c₁=>
   refine ⟨x.1,codeAny_mono x.2 fun q s₂ y=>?_⟩
   obtain ⟨h',tk,acc',c',rfl,rfl,hk,hS',hacc⟩:=y
   show wpAny _ A (load s.heap.objs.size >>= _) _ _ _
   refine wpAny_bind (wpAny_load hS' ?_)
   exact wpAny_pure (h h' tk acc' hk hacc)
 ·obtain ⟨_,_,_,_,e',_⟩:=x
  cases e'
end
section
variable {X:Cx}
abbrev zFp (n:Nat) (t u v:Tok):Obj:={ cls:=.type "range",data:=.fields #[.int 0 t,.int n u,.int 1 v] }
def z4C (ta:TA):TE:=fun σ H Q=>ta σ H fun vs H1=>∃n:Nat,vs=[.int n]∧∀(a:Addr) (t u v:Tok),H1 a=none→Q (.ref a) (upd H1 a (Known a (zFp n t u v)))
theorem zWx {e:Expr} {ta:TA} {p pos:Pos} (hg:Gl X "range") (hm:X.mg "range"=none) (ha:PA X [e] ta) (hs:starEach [e] X.env=[(false,eval e X.env)]:=by rfl):PE X (.Call (.Name "range" p) [e] [] pos) (z4C ta):=by
 intro pins s σ H Q I h
 refine Call_ (zRg I hg hm boot_range (PyProof.Rows.callWith_type1 (thn (ha pos pins s σ H _ I h) fun us s1 ⟨vs,H1,I1,r1,q1⟩=>?_) hs rfl))
 obtain ⟨n,e,q⟩:=q1
 subst e
 cases r1 with
 |cons r rr=>
  cases rr
  obtain ⟨t,rfl⟩:=r
  refine call_range_1 ⟨.ref _,upd H1 s1.heap.objs.size (Known s1.heap.objs.size (zFp n s1.toks t (s1.toks + 1))),?_,rfl,q _ _ _ _ (I1.hok.fresh (Nat.le_refl _))⟩
  exact I1.laid (fun b u q=>Heap.get?_push_of_some _ q) (Nat.le_refl _) (zLe (Heap.get?_push_size _ rfl))
def zwA (T:Addr) (pos:Pos) (q:Str) (fr:List Nat) (ta:TA) (tb:TE):TE:=fun σ H Q=>ta σ H fun vs H1=>∃(a:Addr) (n:Nat) (t u v:Tok) (keys:List (Int×Int)),vs=[.ref a]∧H1 a=some (Known a (zFp n t u v))∧n≤100000∧keys.length=n∧zvc H1 T pos q∧
 (∀(i:Nat) (k:Int×Int) (H2:Hp),i < n→keys[i]?=some k→(∀b o,H1 b=some o→b≠T→H2 b=some o)→tb (some (.int i)::slots σ fr) H2 fun v H3=>zB H2 H3∧∃t,v=.ref t∧H3 t=some (.tup [.int k.1,.int k.2]))∧
 ∀(H2:Hp) (D:Addr) (zs:List ((Int×Int)×V)),(∀b o,H1 b=some o→b≠T→H2 b=some o)→zvc H2 T pos q→H1 D=none→H2 D=some (.lst (zs.map (·.2)))→zs.Perm (keys.zip ((List.range n).map fun i=>V.int (i:Nat)))→(zs.Pairwise fun p q=>KLe p.1 q.1)→Q (.ref D) H2
theorem zAz:∀{n:Nat} {us:List Value},us.length=n→(∀(j:Nat) (v:Value),us[j]?=some v→∃t,v=Value.int (0 + (j:Int) * 1) t)→Vals ((List.range n).map fun i=>V.int (i:Nat)) us:=by
 intro n us hl h
 have all:∀(us:List Value) (k:Nat),(∀(j:Nat) (v:Value),us[j]?=some v→∃t,v=Value.int ((k + j:Nat):Int) t)→Vals ((List.range' k us.length).map fun i=>V.int (i:Nat)) us:=by
  intro us
  induction us with
  |nil=>intro k _;exact .nil
  |cons u us ih=>
   intro k h
   obtain ⟨t,e⟩:=h 0 u rfl
   refine .cons (show RelV (V.int (k:Nat)) u from ⟨t,e⟩) (ih (k + 1) fun j v e=>?_)
   obtain ⟨t,e⟩:=h (j + 1) v e
   refine ⟨t,?_⟩
   rw [e]
   congr 1
   omega
 have z:=all us 0 fun j v e=>by
  obtain ⟨t,e⟩:=h j v e
  refine ⟨t,?_⟩
  rw [e]
  congr 1
  omega
 rw [List.range_eq_range',←hl]
 exact z
theorem zIu {k:Nat} {c T:Addr} {px:Str} {fr:List Str} {frn:List Nat} {e:Expr} {params:Arguments} {body:Expr} {scope:Scope} {lpos kpos p pos:Pos} {clos:List (Str×Addr)} {ta:TA} {tb:TE} (hcm:X.calm=true) (hr:zhc (k + 1) X.A) (hg:Gl X "sorted") (hm:X.mg "sorted"=none)
  (hcode:X.env.code=.ref c) (hc:CodeHd X.base c T) (hb:zIw X) (L:zRs scope px fr) (hdef:defaultsOf params X.env=([],[])) (hcl:closureFor scope X.env=pure clos)
  (hbind:∀pm c' ctv v,bindArgs (kla_fn "<lambda>" (X.env.qual++"<lambda>") params body scope clos pm (.ref c') ctv) ⟨[v],[]⟩=pure [(px,v)])
  (hclos:∀y c,clos.lookup y=some c→X.env.cells.lookup y=some c) (hcl2:∀y∈fr,∃c,clos.lookup y=some c) (hlen:frn.length=fr.length)
  (hfr:∀(i:Nat) (y:Str) (j:Nat),fr[i]?=some y→frn[i]?=some j→X.N[j]?=some y∧X.env.scope.names.lookup y=some .cell)
  (ha:PA X [e] ta) (hbody:∀(A:Around) (H:Hp) (s:Shared) (f c':Addr),PE (zqn X A H s (X.env.qual++"<lambda>") scope f (.ref c') clos (px::fr)) body tb)
  (hs:starEach [e] X.env=[(false,eval e X.env)]:=by rfl):
  PE X (.Call (.Name "sorted" p) [e] [⟨some "key",.Lambda params body scope lpos,kpos⟩] pos) (zwA T lpos (X.env.qual++"<lambda>") frn ta tb):=by
 intro pins s σ H Q I h
 refine wpAny_Call_Name_kw (zRg I hg hm L2.boot_sorted ?_)
 refine callWith_kw (thn (ha pos pins s σ H _ I h) fun us s1 ⟨vs,H1,I1,rl,a,n,tt,uu,vv,keys,ex,hq,hz,hkl,ht,turn,fin⟩=>?_) (by rw [hs];rfl) (by rw [hs];rfl)
 subst ex
 obtain ⟨u,rfl,ru⟩:=vals1 rl
 cases ru
 have hl:((List.range n).map fun i=>V.int (i:Nat)).length=n:=by rw [List.length_map,List.length_range]
 refine kws_cons (thn (zNr (k:=k) hr hcode hc hb L hdef hcl hbind hclos hcl2 hlen hfr hbody I1 (lv:=.ref a) (xs:=(List.range n).map fun i=>V.int (i:Nat)) (keys:=keys) ?_ (by rw [hl];exact Nat.le_trans hz (by decide)) (by rw [hl,hkl]) ht (fun i x kk H2 e1 e2 k2=>?_) fin) fun fv s2 q=>kws_nil q)
 ·intro s2 kh H2 I2 k2 R hR
  have hne:a≠T:=by
   rcases ht with ht|⟨_,ht,_⟩
   ·exact zZb hq ht (by intro z;cases z)
   ·exact zZb hq ht (by intro z;cases z)
  have hg:=I2.known (k2 _ _ hq hne)
  refine zKu (a:=0) (b:=n) (c:=1) (n:=n) (I2.ok.hd hcm) hg (small_one (by omega) (by omega) (by omega) (by omega)) ?_ (by omega) fun h' tk acc hk hacc=>?_
  ·rw [rangeSize_one]
   split<;>omega
  ·refine hR h' tk _ hk (zAz (by rw [Array.length_toList,hacc.1]) fun j v e=>?_)
   obtain ⟨t,e⟩:=hacc.2 j v (by rw [←Array.getElem?_toList];exact e)
   exact ⟨t,e⟩
 ·rw [List.getElem?_map] at e1
  have hi:i < n:=by
   by_cases hi:i < n
   ·exact hi
   ·rw [List.getElem?_eq_none (by rw [List.length_range];omega)] at e1
    cases e1
  rw [List.getElem?_range hi] at e1
  have e1:V.int (i:Nat)=x:=Option.some.inj e1
  rw [←e1]
  exact turn i kk H2 hi e2 k2
def zyC:List V→Hp→VK→Prop:=fun xs H Q=>∃i j:Int,xs=[.int i,.int j]∧Q (.int (if j > i then j else i)) H
theorem zQq {i j:Nat} {x y:Str} {k:Nat} {p1 p2 pos:Pos} (hc:X.calm=true) (hN:X.N.Nodup) (hi:X.N[i]?=some x) (hj:X.N[j]?=some y) (hx:Loc X.env.scope x) (hy:Loc X.env.scope y)
  (hf:X.fn x=true∨X.env.scope.names.lookup x=some .local:=by first|exact .inl rfl|exact .inr rfl) (hg:X.fn y=true∨X.env.scope.names.lookup y=some .local:=by first|exact .inl rfl|exact .inr rfl):
  PG X (.Tuple [.Name x p1,.Name y p2] k pos) (zvw X.K 2 (zWk (zMg i) (zWk (zMg j) z3v))):=
 zTB hc (zpt (zrb hN hi hx hf) (zpt (zrb hN hj hy hg) zWA))
theorem zCx {d:Addr} {o:Obj} {kvs:List (List Key×V)} {g:TG} {tb:TS} {D:Ends} {σ:St} {H:Hp} (Pv:Nat→St→Hp→Prop) (h0:Pv 0 σ H) (hl:∀i σ H,i≤kvs.length→Pv i σ H→H d=some (.frz o (.dT kvs)))
  (hs:∀i k v q σ H,kvs[i]?=some (k,v)→Pv i σ H→H q=some (.tup (k.map kV))→g (.ref q) σ H fun σ2 H2=>tb { D with nx:=Pv (i + 1),ct:=Pv (i + 1),bk:=D.nx } σ2 H2) (hd:∀σ H,Pv kvs.length σ H→D.nx σ H):
  ∃W:Nat→Nat→St→Hp→Prop,(∃m,W 0 m σ H)∧∀i m σ H,W i m σ H→
   ((zTt d o kvs).stop i H∧D.nx σ H)∨((zTt d o kvs).go i H∧∃N:St→Hp→Prop,(∀σ' H',N σ' H'→∃m',m' < m∧W (i + 1) m' σ' H')∧∀x H',(zTt d o kvs).yld i H x H'→g x σ H' fun σ2 H2=>tb { D with nx:=N,ct:=N,bk:=D.nx } σ2 H2):=by
 refine ⟨fun i m σ H=>m=kvs.length - i∧i≤kvs.length∧Pv i σ H,⟨kvs.length,by simp,Nat.zero_le _,h0⟩,?_⟩
 rintro i m σ H ⟨rfl,hi,p⟩
 have q:=hl i σ H hi p
 by_cases hlt:i < kvs.length
 ·refine .inr ⟨⟨q,hlt⟩,Pv (i + 1),fun σ' H' p'=>⟨kvs.length - (i + 1),by omega,rfl,hlt,p'⟩,fun x H' y=>?_⟩
  obtain ⟨e,k,v,a,ek,ex,ea⟩:=y
  subst e
  subst ex
  exact hs i k v a σ _ ek p ea
 ·have e:i=kvs.length:=by omega
  subst e
  exact .inl ⟨⟨q,Nat.le_refl _⟩,hd σ H p⟩
theorem zTx {K:PySem.W.Frag} {a b:Addr} {xs ys:List V} {g:TG} {tt:TT} {te:TE} {vs:List Nat} {σ:St} {H1:Hp} {D:Addr} {Qd:Hp→Prop} (Pv:Nat→Hp→Prop) (hxy:xs.length=ys.length) (h0:Pv 0 (upd H1 D (.lst []))) (hl:∀i H,i≤xs.length→Pv i H→SqL K H a xs∧SqL K H b ys)
  (hs:∀i x y T H,xs[i]?=some x→ys[i]?=some y→Pv i H→H T=none→g (.ref T) (wipe σ vs) (upd H T (.tup [x,y])) fun σ2 H2=>wipe σ2 vs=wipe σ vs∧tt σ2 H2 fun b H3=>
   if b=true then te σ2 H3 fun y H4=>∃acc,H4 D=some (.lst acc)∧acc.length < sizeLine∧Pv (i + 1) (upd H4 D (.lst (acc++[y]))) else Pv (i + 1) H3) (hd:∀H,Pv xs.length H→Qd H):
  ∃W:Nat→Nat→Hp→Prop,(∃m,W 0 m (upd H1 D (.lst [])))∧∀i m H,W i m H→
   ((Itz K a b).stop i H∧Qd H)∨((Itz K a b).go i H∧∃Nx:Hp→Prop,(∀H',Nx H'→∃m',m' < m∧W (i + 1) m' H')∧∀x H',(Itz K a b).yld i H x H'→g x (wipe σ vs) H' fun σ2 H2=>wipe σ2 vs=wipe σ vs∧tt σ2 H2 fun b H3=>
    if b=true then te σ2 H3 fun y H4=>∃acc,H4 D=some (.lst acc)∧acc.length < sizeLine∧Nx (upd H4 D (.lst (acc++[y]))) else Nx H3):=by
 refine ⟨fun i m H=>m=xs.length - i∧i≤xs.length∧Pv i H,⟨xs.length,by simp,Nat.zero_le _,h0⟩,?_⟩
 rintro i m H ⟨rfl,hi,p⟩
 obtain ⟨q1,q2⟩:=hl i H hi p
 by_cases hlt:i < xs.length
 ·refine .inr ⟨⟨xs,ys,xs[i],ys[i],q1,q2,by simp [hlt],by simp [hxy ▸ hlt]⟩,Pv (i + 1),fun H' p'=>⟨xs.length - (i + 1),by omega,rfl,hlt,p'⟩,fun x H' y=>?_⟩
  obtain ⟨T,x,y,rfl,hT,rfl,hx,hy⟩:=y
  exact hs i x y T H (hx xs q1) (hy ys q2) p hT
 ·have e:i=xs.length:=by omega
  subst e
  exact .inl ⟨⟨xs,ys,q1,q2,.inl (Nat.le_refl _)⟩,hd H p⟩
end
end L2
namespace Pv
open PySem PySem.Spec PyProof.Rows L2
open Vbemak (Call)
theorem zoy {l m:List Int} (h:l.Perm m):l.sum=m.sum:=by
 induction h with
 |nil=>rfl
 |cons x _ ih=>rw [List.sum_cons,List.sum_cons,ih]
 |swap x y l=>
  rw [List.sum_cons,List.sum_cons,List.sum_cons,List.sum_cons]
  omega
 |trans _ _ h1 h2=>exact h1.trans h2
theorem z6p {α β:Type} {f:α→β} {ks ms:List β} (h:ks.Perm ms):∀{l:List α},ms=l.map f→∃l':List α,ks=l'.map f∧l'.Perm l:=by
 induction h with
 |nil=>
  intro l e
  exact ⟨l,e,List.Perm.refl _⟩
 |@cons x ks ms _ ih=>
  intro l e
  cases l with
  |nil=>cases e
  |cons a l=>
   rw [List.map_cons] at e
   injection e with e1 e2
   obtain ⟨l',h1,h2⟩:=ih e2
   exact ⟨a::l',by rw [List.map_cons,h1,e1],h2.cons a⟩
 |swap x y r=>
  intro l e
  cases l with
  |nil=>cases e
  |cons a l=>
   cases l with
   |nil=>cases e
   |cons b l=>
    rw [List.map_cons,List.map_cons] at e
    injection e with e1 e2
    injection e2 with e2 e3
    exact ⟨b::a::l,by rw [List.map_cons,List.map_cons,←e1,←e2,←e3],List.Perm.swap ..⟩
 |trans _ _ h1 h2=>
  intro l e
  obtain ⟨l',g1,g2⟩:=h2 e
  obtain ⟨l'',f1,f2⟩:=h1 g1
  exact ⟨l'',f1,f2.trans g2⟩
theorem zQj {l:List Int} {i:Nat} {z:Int}:(l.map V.int).set i (.int z)=(l.set i z).map V.int:=(List.map_set ..).symm
theorem zHq {n i:Nat} (h:i < n):ixN n (i:Int)=some i:=by
 unfold ixN
 rw [if_pos (by omega),if_pos (by omega)]
 rfl
theorem getD_at {l:List Int} {i:Nat} (h:i < l.length):(l.map V.int)[i]?=some (.int (l.getD i 0)):=by
 rw [List.getElem?_map,List.getElem?_eq_getElem h,List.getD_eq_getElem?_getD,List.getElem?_eq_getElem h]
 rfl
theorem zNh {s:Sta} (I:VM.SInv s) (d:Nat):Vbemak.techOf s d < 10:=by
 unfold Vbemak.techOf
 cases e:Vbemak.device? s d with
 |none=>
  show 0 < 10
  decide
 |some x=>
  show x.tech < 10
  unfold Vbemak.device? at e
  split at e
  ·cases e
  ·have:=I.tech x (List.mem_of_getElem? e)
   omega
theorem tens:((List.replicate (10:Int).toNat [V.int 0]).flatten)=(List.replicate 10 (0:Int)).map V.int:=rfl
abbrev sz (r:Rn):Int:=(r.last:Int) - r.first + 1
section
variable {P:Program} {w:World} {K:PySem.W.Frag} {mg:Str→Option Value} {base:Heap} {A:Adr}
def zyi (A:Adr):Sp:=fun vs H Q _=>∃(L:Loc) (s:Sta) (l:Addr) (rs:List Rn),vs=[.ref L.bk,.ref l]∧zw A H L s∧VM.SInv s∧zU A.zo H l rs∧rs.length≤10000∧(∀r∈rs,r∈s.runs)∧
 ∀(H':Hp) (q:Addr),H' q=some (.lst ((((List.range 10).map fun t=>Vbemak.count (Vbemak.ofTech s t rs)).map Vbemak.nat).map V.int))→zB H H'→Q (.ref q) H'
theorem z6e (T:Txt K mg A):zG P w K mg base CX0 3 A.zhf A.zpf ["book","runs"] (zyi A):=by
 have zEb:=@zBd P w K mg base A T
 have zEg:=@zEi P w K mg base A T
 obtain ⟨ztt,zri⟩:=T.zTh
 have nN:=z5e.nd
 refine T.zkb.F.ok z5e (fun vs H Q E h=>?_) (fun cdv B outer s H vs Q E hr h=>?_)
 ·obtain ⟨L,s,l,rs,rfl,_⟩:=h
  rfl
 ·obtain ⟨L,s,l,rs,rfl,B,I,⟨as,hl,hp⟩,hlen,hin,k⟩:=h
  have hu:=zM hr
  refine ⟨_,(zd (zK (i:=2) nN rfl (Or.inl rfl) (zZ zWs (zA (za zm zb)) (zp (v:=.int (10)) rfl zri ⟨_,rfl⟩)))
   (zd (zMd PassesOwn.never rfl (zYb (pv 1)) (zrb (i:=3) nN rfl (Or.inl rfl)) (ze (zZq (pv 2) (zn zEg hr T.ztc (za (pv 0) (za (pv 3) zb))) zwo (zn zEb hr T.zwb (za (zA (za (pv 3) zb)) zb)) zcu set_list)))
   (ze (zh (pv 2))))),?_⟩
  refine ⟨(by show 1≤sizeLine;decide),fun l0 h0=>?_⟩
  have s0:=zq (o:=.lst [.int 0]) h0
  refine ⟨l0,10,_,rfl,rfl,zc,(by decide),(by decide),(by show 1 * 10≤sizeLine;decide),fun q hq=>?_⟩
  rw [tens]
  have s1:=zq (o:=.lst ((List.replicate 10 (0:Int)).map V.int)) hq
  have sA:=s0.trans s1
  have hq0:H q=Option.none:=s0.free hq
  refine ⟨_,rfl,l,rfl,⟨_,SqL.of (sA _ _ hl)⟩,zwd (K:=K) (a:=l) (xs:=as.map V.ref) (fun i σ H'=>∃v:Option V,σ=[some (.ref L.bk),some (.ref l),some (.ref q),v]∧zB H H'∧H' q=some (.lst ((VM.zhg (fun r=>Vbemak.techOf s r.device) sz (rs.take i)).map V.int)))
   ⟨none,rfl,sA,zc⟩ (fun i σ H' _ ⟨_,_,z,_⟩=>SqL.of (z _ _ hl)) ?_ ?_⟩
  ·rintro i y σ H1 hi ⟨v,rfl,s2,hq2⟩
   obtain ⟨a,ha,rfl⟩:=zCc hi
   obtain ⟨r,hri,hra⟩:=pat hp ha
   have hra:=zeb s2 hra
   have B2:=B.same s2
   have bl:(VM.zhg (fun r=>Vbemak.techOf s r.device) sz (rs.take i)).length=10:=VM.z8p fun r _=>zNh I r.device
   have tl:=zNh I r.device
   refine ⟨_,rfl,_,rfl,_,rfl,L,s,a,r,rfl,B2,hra,zXq I (hin r (List.mem_of_getElem? hri)),?_⟩
   refine ⟨q,_,_,_,rfl,rfl,SqL.of hq2,getD_at (by omega),?_⟩
   refine ⟨_,rfl,(by show 1≤sizeLine;decide),fun u hu=>?_⟩
   have s3:=zq (o:=.lst [.ref a]) hu
   refine ⟨u,[r],rfl,⟨[a],zc,.cons (zeb s3 hra) .nil⟩,(by show 1≤10000;decide),fun H3 s4=>?_⟩
   have hq4:=s4 _ _ (s3 _ _ hq2)
   refine ⟨_,_,rfl,rfl,q,_,_,_,rfl,rfl,hq4,zHq (by rw [List.length_map];omega),?_⟩
   refine ⟨_,rfl,fun b o e=>?_,?_⟩
   ·rw [zi (zk e hq0)]
    exact s4 _ _ (s3 _ _ (s2 _ _ e))
   ·have ez:([r].map fun r=>(r.last:Int) - r.first + 1).sum=sz r:=by
     show (r.last:Int) - r.first + 1 + 0=_
     exact Int.add_zero _
    rw [zc,ez,zQj,take_snoc hri]
    unfold VM.zhg
    rw [List.foldl_append]
    rfl
  ·rintro σ H1 ⟨v,rfl,s2,hq2⟩
   rw [List.length_map,zNb hp,List.take_length,VM.ztr fun r _=>zNh I r.device] at hq2
   refine ⟨_,rfl,k H1 q ?_ s2⟩
   rw [hq2,List.map_map (f:=fun t=>Vbemak.count (Vbemak.ofTech s t rs))]
   congr 3
   refine List.map_congr_left fun t _=>?_
   exact VM.z2d fun r hr=>(VM.z7 I.tiles (hin r (List.mem_filter.mp hr).1)).2.1
def zAs (A:Adr):Sp:=fun vs H Q _=>∃(L:Loc) (s:Sta) (n:Int) (d:Nat) (a dx:Addr),vs=[.ref L.bk,.int n]∧n=d∧H L.bk=some (.ins A.zg dx (bf s.opened s.life s.window s.now s.accounts L.dl L.td L.rl L.od s.offered))∧H L.dl=some (.lst (L.das.map V.ref))∧1≤d∧L.das[d - 1]?=some a∧Q (.ref a) H
theorem zHs (T:Txt K mg A):zG P w K mg base CX0 1 A.zCj A.zdj ["book","number"] (zAs A):=by
 have nN:=zlg.nd
 refine T.zFb.F.ok zlg (fun vs H Q E h=>?_) (fun cdv B outer s H vs Q E hr h=>?_)
 ·obtain ⟨L,s,n,d,a,dx,rfl,_⟩:=h
  rfl
 ·obtain ⟨L,s,n,d,a,dx,rfl,rfl,hb,hd,h1,ha,k⟩:=h
  refine ⟨_,(ze (zh (zS zH (zf (pv 0) rfl) (zZ zod (pv 1) zm) (fun _ _=>rfl)))),?_⟩
  exact ⟨_,rfl,L.bk,A.zg,dx,_,_,rfl,hb,T.zt,T.zqc,z0e _ _ _ _ _ _ _ _ _ _,_,rfl,_,_,rfl,rfl,L.dl,_,_,_,rfl,rfl,SqL.of hd,at_of (j:=d - 1) (v:=.ref a) (by omega) (by rw [List.getElem?_map,ha];rfl),k⟩
def zgk (A:Adr):Sp:=fun vs H Q _=>∃(L:Loc) (s:Sta),vs=[.ref L.bk]∧zw A H L s∧VM.SInv s∧
 ∀(H':Hp) (q:Addr),H' q=some (.lst (((List.range 10).map fun t=>Vbemak.metered s t).map V.int))→H q=Option.none→zB H H'→Q (.ref q) H'
theorem z5j (T:Txt K mg A):zG P w K mg base CX0 2 A.zfg A.zdg ["book"] (zgk A):=by
 have zTb:=@zHs P w K mg base A T
 obtain ⟨ztt,zri⟩:=T.zTh
 have nN:=zWf.nd
 refine T.zIb.F.ok zWf (fun vs H Q E h=>?_) (fun cdv B outer s H vs Q E hr h=>?_)
 ·obtain ⟨L,s,rfl,_⟩:=h
  rfl
 ·obtain ⟨L,s,rfl,B,I,k⟩:=h
  have hu:=zM hr
  refine ⟨_,(zd (zK (i:=1) nN rfl (Or.inl rfl) (zZ zWs (zA (za zm zb)) (zp (v:=.int (10)) rfl zri ⟨_,rfl⟩)))
   (zd (zGv (zMd PassesOwn.never rfl (z4A (zf (pv 0) rfl)) (zrb (i:=2) nN rfl (Or.inl rfl)) (ze (zZq (pv 1) (zf (zn zTb hr T.zFb (za (pv 0) (za (zS z7j (pv 2) zm (fun _ _=>rfl)) zb))) rfl) zwo (zdn hu (zf (pv 0) rfl) (pv 2) (fun _ _=>rfl)) zcu set_list))))
   (ze (zh (pv 1))))),?_⟩
  refine ⟨(by show 1≤sizeLine;decide),fun l0 h0=>?_⟩
  have s0:=zq (o:=.lst [.int 0]) h0
  refine ⟨l0,10,_,rfl,rfl,zc,(by decide),(by decide),(by show 1 * 10≤sizeLine;decide),fun q hq=>?_⟩
  rw [tens]
  have s1:=zq (o:=.lst ((List.replicate 10 (0:Int)).map V.int)) hq
  have sA:=s0.trans s1
  have hq0:H q=Option.none:=s0.free hq
  have B1:=B.same sA
  obtain ⟨kvs,htd,R⟩:=B1.totsR I
  obtain ⟨ts,ek,pt⟩:=z6p R.perm rfl
  obtain ⟨dx,hb⟩:=B1.book
  have hq1:upd (upd H l0 (.lst [.int 0])) q (.lst ((List.replicate 10 (0:Int)).map V.int)) q=some (.lst ((List.replicate 10 (0:Int)).map V.int)):=zc
  generalize upd (upd H l0 (.lst [.int 0])) q (.lst ((List.replicate 10 (0:Int)).map V.int))=H1 at s1 sA B1 htd hb hq1
  refine ⟨L.td,_,htd,True.intro,fun od=>?_⟩
  have kL:=But.upd (l:=L.td) (o:=.frz od (.dT kvs)) (H:=H1)
  have hbL:=kL _ _ hb (zP htd hb (fun z=>nomatch z))
  have hdL:=kL _ _ B1.devs (zP htd B1.devs (fun z=>nomatch z))
  have nq:q≠L.td:=zP htd hq1 (fun z=>nomatch z)
  have bq:∀{b:Addr} {o:HO},H1 b=some o→(∀xs,o≠.lst xs)→b≠q:=fun e n=>zP hq1 e (fun z=>n _ z.symm)
  refine ⟨_,rfl,L.bk,A.zg,dx,_,_,rfl,hbL,T.zt,T.zfc,zPe _ _ _ _ _ _ _ _ _ _,L.td,od,rfl,.inr ⟨kvs,zc,zCx (d:=L.td) (o:=od) (kvs:=kvs) (fun i σ H'=>∃v:Option V,σ=[some (.ref L.bk),some (.ref q),v]∧(∀b o,upd H1 L.td (.frz od (.dT kvs)) b=some o→b≠q→H' b=some o)∧H' q=some (.lst ((VM.zhg (fun t:Vbemak.Total=>Vbemak.techOf s t.device) (fun t=>t.total) (ts.take i)).map V.int)))
   ⟨none,rfl,fun _ _ e _=>e,kL _ _ hq1 nq⟩ (fun i σ H' _ ⟨_,_,z,_⟩=>z _ _ zc nq.symm) ?_ ?_⟩⟩
  ·rintro i kk v q' σ H2 hi ⟨w',rfl,s2,hq2⟩ hq'
   have hm:(kk,v)∈kvs:=List.mem_of_getElem? hi
   have ev:=zPh ((R.perm.map (·.1)).nodup_iff.mpr (zmn R.ord)) hm
   rw [ek] at hi
   obtain ⟨t,hti,et⟩:=zCd hi
   have e1:zke t.device t.month=kk:=congrArg Prod.fst et
   have e2:V.int t.total=v:=congrArg Prod.snd et
   subst e1
   subst e2
   have td:=I.tot t (pt.mem_iff.mp (List.mem_of_getElem? hti))
   obtain ⟨x,hx⟩:=zjx td
   obtain ⟨a,ha,da,hda⟩:=B1.devAt hx
   have hda2:=s2 _ _ (kL _ _ hda (zP htd hda (fun z=>nomatch z))) (bq hda (fun _ z=>nomatch z))
   have hb2:=s2 _ _ hbL (bq hb (fun _ z=>nomatch z))
   have ndq:L.dl≠q:=zk B.devs hq0
   have hd2:=s2 _ _ hdL ndq
   have htd2:=s2 _ _ zc nq.symm
   have bl:(VM.zhg (fun t:Vbemak.Total=>Vbemak.techOf s t.device) (fun t=>t.total) (ts.take i)).length=10:=VM.z8p fun t _=>zNh I t.device
   have tl:=zNh I t.device
   have et:=zCr td.1 hx
   rw [et] at tl
   refine ⟨_,rfl,_,rfl,_,rfl,q',_,0,_,rfl,rfl,SqT.of hq',at_of (j:=0) rfl rfl,L,s,_,t.device,a,dx,rfl,rfl,hb2,hd2,td.1,ha,a,A.zy,da,_,_,rfl,hda2,T.zbb,T.zZc,zUh _ _ _ _ _,?_⟩
   refine ⟨q,_,x.tech,_,rfl,rfl,SqL.of hq2,getD_at (by omega),?_⟩
   refine ⟨_,rfl,L.bk,A.zg,dx,_,_,rfl,hb2,T.zt,T.zfc,zPe _ _ _ _ _ _ _ _ _ _,_,rfl,L.td,_,rfl,ev ▸ (show zpd H2 L.td (.ref q') (zLb kvs (zke t.device t.month)) from .inr ⟨kvs,_,q',.inr ⟨od,htd2⟩,rfl,hq',rfl⟩),?_⟩
   refine ⟨_,_,rfl,rfl,q,_,_,x.tech,rfl,rfl,hq2,zHq (by rw [List.length_map];omega),?_⟩
   refine ⟨_,rfl,fun b o e n=>?_,?_⟩
   ·rw [zi n]
    exact s2 _ _ e n
   ·rw [zc,zQj,take_snoc hti]
    unfold VM.zhg
    rw [List.foldl_append]
    show some (HO.lst _)=some (HO.lst (List.map V.int (VM.z9i _ (Vbemak.techOf s t.device) t.total)))
    rw [et]
    rfl
  ·rintro σ H2 ⟨v,rfl,s2,hq2⟩
   refine ⟨s2 _ _ zc nq.symm,_,rfl,k _ q ?_ hq0 fun b o e=>?_⟩
   ·have ln:kvs.length=ts.length:=by rw [ek,List.length_map]
    rw [zi nq,hq2,ln,List.take_length,VM.ztr fun t _=>zNh I t.device]
    congr 3
    refine List.map_congr_left fun t _=>?_
    exact zoy ((pt.filter _).map _)
   ·by_cases c:b=L.td
    ·subst c
     have:=sA _ _ e
     rw [htd] at this
     rw [zc]
     exact this
    ·rw [zi c]
     exact s2 _ _ (kL _ _ (sA _ _ e) c) (zk e hq0)
end
end Pv
namespace Pv
open PySem PySem.Spec PyProof.Rows L2
open Vbemak (Call)
theorem zqz (r:Rn):decide (V.int (st0 r.st)=V.int 3)=Vbemak.isCancelled r:=by
 obtain ⟨a,b,d,m,st⟩:=r
 cases st<;>rfl
abbrev vN (l:List Nat):List V:=(l.map Vbemak.nat).map V.int
theorem zPs {l:List Nat} {i:Nat} {x:V} (h:(vN l)[i]?=some x):∃n,l[i]?=some n∧x=.int (n:Int):=by
 obtain ⟨z,hz,rfl⟩:=zCd h
 obtain ⟨n,hn,rfl⟩:=zCd hz
 exact ⟨n,hn,rfl⟩
theorem zne (l:List Nat):(vN l).length=l.length:=by rw [List.length_map,List.length_map]
theorem zmp (l m:List Nat):vN (l++m)=vN l++vN m:=by
 show ((l++m).map Vbemak.nat).map V.int=_
 rw [List.map_append,List.map_append]
def z4p (k w:List Nat) (n:Nat):List Nat:=if w.sum=0 then k++[n] else (k.zip w).map (fun x=>x.1 * w.sum + n * x.2)++[0]
theorem zw.atTab2 {K:PySem.W.Frag} {mg:Str→Option Value} {A:Adr} {H H':Hp} {L:Loc} {s:Sta} (T:Txt K mg A) (B:zw A H L s) (k:But A.zob H H') (t:zWo A H'):zw A H' L s:=by
 obtain ⟨ps,hT⟩:=zye B.t2
 have ne:∀{b:Addr} {o:HO},H b=some o→(∀ps,o≠.tbl ps)→H' b=some o:=fun {b o} h n=>k _ _ h (zZb h hT (n _))
 exact {
  book:=let ⟨dx,h⟩:=B.book;⟨dx,ne h (fun _ z=>nomatch z)⟩
  devs:=ne B.devs (fun _ z=>nomatch z)
  dev:=z1c (fun _ _ ⟨dx,h⟩=>⟨dx,ne h (fun _ z=>nomatch z)⟩) B.dev
  nd:=B.nd
  tots:=let ⟨kvs,h,p⟩:=B.tots;⟨kvs,ne h (fun _ z=>nomatch z),p⟩
  runs:=let ⟨as,h1,h2⟩:=B.runs;⟨as,ne h1 (fun _ z=>nomatch z),z1c (fun _ _ z=>tab_run k B.t2 z) h2⟩
  rne:=B.rne
  offs:=let ⟨oas,h,p⟩:=B.offs;⟨oas,ne h (fun _ z=>nomatch z),z1c (fun _ _ ⟨dx,h⟩=>⟨dx,ne h (fun _ z=>nomatch z)⟩) p⟩
  t1:=by
   rcases B.t1 with u|⟨c,u,v⟩
   ·exact .inl (k _ _ u T.zbk)
   ·exact .inr ⟨c,k _ _ u T.zbk,ne v (fun _ z=>nomatch z)⟩
  t2:=t }
section
variable {P:Program} {w:World} {K:PySem.W.Frag} {mg:Str→Option Value} {base:Heap} {A:Adr}
def zys (A:Adr):Sp:=fun vs H Q _=>∃(L:Loc) (s:Sta),vs=[.ref L.bk]∧zw A H L s∧VM.SInv s∧
 ∀(H':Hp) (q:Addr),H' q=some (.lst (vN ((List.range 10).map (Vbemak.residual s))))→zB H H'→Q (.ref q) H'
theorem zss (T:Txt K mg A):zG P w K mg base CX0 4 A.z8l A.z7l ["book"] (zys A):=by
 have zPd:=@z6e P w K mg base A T
 have zGb:=@zsd P w K mg base A T
 have zCk:=@z5j P w K mg base A T
 obtain ⟨zQn,zkf⟩:=T.zof
 obtain ⟨zmi,z0c⟩:=T.zTe
 have nN:=zel.nd
 refine T.zqd.F.ok zel (fun vs H Q E h=>?_) (fun cdv B outer s H vs Q E hr h=>?_)
 ·obtain ⟨L,s,rfl,_⟩:=h
  rfl
 ·obtain ⟨L,s,rfl,B,I,k⟩:=h
  have hu:=zM hr
  refine ⟨_,(zd (zK (i:=1) nN rfl (Or.inl rfl) (zn zPd hr T.zkb (za (pv 0) (za (zn zGb hr T.zlb (za (zf (pv 0) rfl) (za (zp (v:=.int (3)) rfl zkf ⟨_,rfl⟩) zb))) zb))))
   (ze (zh (zxh (g:=zvw K 2 (zWk (zMg 2) (zWk (zMg 3) z3v))) (tt:=zSo) (te:=(tCB zyC (zVd (tOp (rI0 fun i j=>.int (i - j)) (zAb 2) (tOp (rI z6l fun i j=>.int (i * j)) (tC (.int (1000))) (zAb 3))) (zVd (tC (.int 0)) zjh)))) rfl nN (zKx rfl T.zKs (za (zn zCk hr T.zIb (za (pv 0) zb)) (za (pv 1) zb))) (z9c (own:=[("units",2),("amount",3)]) (by rfl)) (fun _ _ _ _ _=>(zQq (i:=2) (j:=3) rfl nN rfl rfl (Or.inl rfl) (Or.inl rfl))) (fun _ _ _ _ _=>zKh) (fun _ _ _ _ _=>(z5 (zPf rfl) (by rfl) T.zXk (by rfl) (za (zZ zod (pv 2) (zZ zXg (zp (v:=.int (1000)) rfl z0c ⟨_,rfl⟩) (pv 3))) (za zm zb)))))))),?_⟩
  obtain ⟨dx,hb⟩:=B.book
  have rl:s.runs.length≤10000:=Nat.le_trans I.nruns (by decide)
  refine ⟨_,rfl,_,rfl,L.bk,A.zg,dx,_,_,rfl,hb,T.zt,T.zR,zBb _ _ _ _ _ _ _ _ _ _,L.rl,s.runs,3,rfl,B.runs,rl,fun H1 q1 hq1 hq10 s1=>?_⟩
  have ef:(s.runs.filter fun r=>decide (V.int (st0 r.st)=V.int 3))=s.runs.filter Vbemak.isCancelled:=List.filter_congr fun r _=>zqz r
  rw [ef] at hq1
  refine ⟨L,s,q1,_,rfl,B.same s1,I,hq1,Nat.le_trans (List.length_filter_le ..) rl,fun r hr=>(List.mem_filter.mp hr).1,fun H2 c hc s2=>?_⟩
  have sA:=s1.trans s2
  refine ⟨_,rfl,L,s,rfl,B.same sA,I,fun H3 u hu hu0 s3=>?_⟩
  have hc3:=s3 _ _ hc
  refine ⟨_,rfl,u,c,_,_,rfl,SqL.of hu,SqL.of hc3,fun D hD=>zTx (K:=K) (a:=u) (b:=c) (xs:=((List.range 10).map fun t=>Vbemak.metered s t).map V.int) (ys:=vN ((List.range 10).map fun t=>Vbemak.count (Vbemak.ofTech s t (s.runs.filter Vbemak.isCancelled))))
   (fun i H'=>zB H3 H'∧H' D=some (.lst (vN (((List.range 10).take i).map (Vbemak.residual s))))) (by rw [zne,List.length_map,List.length_map,List.length_map]) ⟨zq hD,zc⟩ (fun i H' _ ⟨z,_⟩=>⟨SqL.of (z _ _ hu),SqL.of (z _ _ hc3)⟩) ?_ ?_⟩
  ·rintro i x y t H' hx hy ⟨s4,hD4⟩ ht
   obtain ⟨z,hz,rfl⟩:=zCd hx
   obtain ⟨n,hn,rfl⟩:=zCd hz
   obtain ⟨m,hm,rfl⟩:=zPs hy
   obtain ⟨n',hn',rfl⟩:=zCd hm
   rw [hn] at hn'
   have hn':=Option.some.inj hn'
   subst hn'
   have s5:=zq (o:=.tup [.int (Vbemak.metered s n),.int (Vbemak.count (Vbemak.ofTech s n (s.runs.filter Vbemak.isCancelled)):Nat)]) ht
   refine ⟨t,_,rfl,SqT.of zc,rfl,_,_,rfl,_,_,rfl,rfl,rfl,?_⟩
   refine ⟨_,rfl,_,rfl,_,_,rfl,rfl,.inl ⟨by decide,by decide⟩,_,_,rfl,rfl,_,_,rfl,?_⟩
   refine ⟨_,s5 _ _ hD4,?_,?_,?_⟩
   ·rw [zne,List.length_map]
    exact Nat.lt_of_le_of_lt (zmd i _) (by show 10 < sizeLine;decide)
   ·exact fun b o e=>by rw [zi (zk e hD)];exact s5 _ _ (s4 _ _ e)
   ·have er:(if (0:Int) > Vbemak.metered s n - 1000 * (Vbemak.count (Vbemak.ofTech s n (s.runs.filter Vbemak.isCancelled)):Nat) then 0 else Vbemak.metered s n - 1000 * (Vbemak.count (Vbemak.ofTech s n (s.runs.filter Vbemak.isCancelled)):Nat))=(Vbemak.residual s n:Int):=by
     unfold Vbemak.residual Vbemak.UNIT
     by_cases z:(0:Int) > Vbemak.metered s n - 1000 * (Vbemak.count (Vbemak.ofTech s n (s.runs.filter Vbemak.isCancelled)):Nat)
     ·rw [if_pos z]
      omega
     ·rw [if_neg z]
      omega
    rw [er,zc,take_snoc hn,List.map_append,zmp]
    rfl
  ·rintro H' ⟨s4,hD4⟩
   rw [List.length_map,List.length_map,List.take_length] at hD4
   exact k H' D hD4 ((sA.trans s3).trans s4)
def zWu (A:Adr):Sp:=fun vs H Q _=>∃(c l:Addr) (ks ws:List Nat) (z:Int) (n:Nat),vs=[.ref c,.ref l,.int z]∧z=n∧H c=some (.lst (vN ks))∧H l=some (.lst (vN ws))∧ks.length=10∧ws.length=10∧ws.sum < 2 ^ 63∧n < 2 ^ 63∧
 ∀(H':Hp) (q:Addr),H' q=some (.lst (vN (z4p ks ws n)))→zB H H'→Q (.ref q) H'
theorem zAu (T:Txt K mg A):zG P w K mg base CX0 1 A.zeq A.zup ["covered","left","uncovered"] (zWu A):=by
 have nN:=z1n.nd
 refine T.zde.F.ok z1n (fun vs H Q E h=>?_) (fun cdv B outer s H vs Q E hr h=>?_)
 ·obtain ⟨c,l,ks,ws,z,n,rfl,_⟩:=h
  rfl
 ·obtain ⟨c,l,ks,ws,z,n,rfl,rfl,hc,hl,k1,w1,hw,hn,k⟩:=h
  have hu:=zM hr
  refine ⟨_,(zd (zK (i:=3) nN rfl (Or.inr rfl) (z5 (zbm rfl) (by rfl) T.v_sum (by rfl) (za (pv 1) zb)))
   (zd (zI (zC zMb (pv 3) zm (zE _)) (ze (zh (zZ z2h (pv 0) (zA (za (pv 2) zb))))) zx)
   (ze (zh (zZ z2h (zxh (g:=zvw K 2 (zWk (zMg 4) (zWk (zMg 5) z3v))) (tt:=zSo) (te:=(tOp (rI0 fun i j=>.int (i + j)) (tOp (rI z6l fun i j=>.int (i * j)) (zAb 4) (zAb 3)) (tOp (rI z6l fun i j=>.int (i * j)) (zAb 2) (zAb 5)))) rfl nN (zKx rfl T.zKs (za (pv 0) (za (pv 1) zb))) (z9c (own:=[("amount",4),("units",5)]) (by rfl)) (fun _ _ _ _ _=>(zQq (i:=4) (j:=5) rfl nN rfl rfl (Or.inl rfl) (Or.inl rfl))) (fun _ _ _ _ _=>zKh) (fun _ _ _ _ _=>(zZ zdd (zZ zXg (pv 4) (pv 3)) (zZ zXg (pv 2) (pv 5))))) (zA (za zm zb))))))),?_⟩
  refine ⟨_,rfl,l,_,rfl,SqL.of hl,?_⟩
  rw [VM.zKj]
  refine ⟨_,rfl,rfl,_,rfl,?_⟩
  refine zmb (fun c1=>?_) fun c1=>?_
  ·have c1:ws.sum=0:=by
    have:=of_decide_eq_true c1
    injection this with this
    omega
   refine ⟨_,rfl,_,rfl,(by show 1≤sizeLine;decide),fun u hu=>?_⟩
   have s1:=zq (o:=.lst [.int (n:Int)]) hu
   refine ⟨c,u,_,_,rfl,rfl,s1 _ _ hc,zc,?_,fun p hp=>?_⟩
   ·rw [zne,k1]
    show 11≤sizeLine
    decide
   ·refine k _ p ?_ (s1.trans (zq hp))
    rw [zc]
    unfold z4p
    rw [if_pos c1,zmp]
    rfl
  ·have c1:¬ws.sum=0:=fun e=>c1 (decide_eq_true (by rw [e];rfl))
   refine ⟨_,rfl,_,rfl,c,l,_,_,rfl,SqL.of hc,SqL.of hl,fun D hD=>zTx (K:=K) (a:=c) (b:=l) (xs:=vN ks) (ys:=vN ws)
    (fun i H'=>zB H H'∧H' D=some (.lst (vN (((ks.zip ws).take i).map fun x=>x.1 * ws.sum + n * x.2)))) (by rw [zne,zne,k1,w1]) ⟨zq hD,zc⟩ (fun i H' _ ⟨z,_⟩=>⟨SqL.of (z _ _ hc),SqL.of (z _ _ hl)⟩) ?_ ?_⟩
   ·rintro i x y t H' hx hy ⟨s4,hD4⟩ ht
    obtain ⟨a,ha,rfl⟩:=zPs hx
    obtain ⟨b,hb,rfl⟩:=zPs hy
    have s5:=zq (o:=.tup [.int (a:Int),.int (b:Int)]) ht
    have hz:(ks.zip ws)[i]?=some (a,b):=by
     rw [List.getElem?_zip_eq_some]
     exact ⟨ha,hb⟩
    refine ⟨t,_,rfl,SqT.of zc,rfl,_,_,rfl,_,_,rfl,rfl,rfl,?_⟩
    refine ⟨_,rfl,_,rfl,_,_,rfl,rfl,.inr ⟨by omega,by omega⟩,_,rfl,_,rfl,_,_,rfl,rfl,.inl ⟨by omega,by omega⟩,_,_,rfl,rfl,?_⟩
    refine ⟨_,s5 _ _ hD4,?_,?_,?_⟩
    ·rw [zne,List.length_map]
     refine Nat.lt_of_le_of_lt (zmd i _) ?_
     rw [List.length_zip,k1,w1]
     show 10 < sizeLine
     decide
    ·exact fun b o e=>by rw [zi (zk e hD)];exact s5 _ _ (s4 _ _ e)
    ·rw [zc,take_snoc hz,List.map_append,zmp]
     congr 3
   ·rintro H' ⟨s4,hD4⟩
    have el:(vN ks).length=(ks.zip ws).length:=by rw [zne,List.length_zip,k1,w1];rfl
    rw [el,List.take_length] at hD4
    refine ⟨(by show 1≤sizeLine;decide),fun u hu=>?_⟩
    have s5:=zq (o:=.lst [.int 0]) hu
    refine ⟨D,u,_,_,rfl,rfl,s5 _ _ hD4,zc,?_,fun p hp=>?_⟩
    ·rw [zne,List.length_map,List.length_zip,k1,w1]
     show 11≤sizeLine
     decide
    ·refine k _ p ?_ ((s4.trans s5).trans (zq hp))
     rw [zc]
     unfold z4p
     rw [if_neg c1,zmp]
     rfl
theorem zSy (n m:Nat):(10000:Int) * (n:Int) / (m:Int)=((n * Vbemak.WHOLE / m:Nat):Int):=by
 have e:(10000:Int) * (n:Int)=((n * 10000:Nat):Int):=by omega
 rw [e]
 rfl
theorem z4y (n m:Nat):(10000:Int) * (n:Int) % (m:Int)=((n * Vbemak.WHOLE % m:Nat):Int):=by
 have e:(10000:Int) * (n:Int)=((n * 10000:Nat):Int):=by omega
 rw [e]
 rfl
theorem zyr {κ:Type} {f:Nat→κ}:∀{l:List Nat},(l.map f).zip (l.map fun i=>V.int (i:Nat))=l.map fun i=>(f i,V.int (i:Nat))
 |[]=>rfl
 |x::l=>by rw [List.map_cons,List.map_cons,List.zip_cons_cons,zyr,List.map_cons]
theorem zdz (xs:List V) (m:Nat):z2k xs none (some (m:Int))=xs.take m:=by
 unfold z2k
 rw [HT.sIx_none,HT.sIx_nat,List.drop_zero,Nat.sub_zero]
 by_cases h:m≤xs.length
 ·rw [Nat.min_eq_left h]
 ·rw [Nat.min_eq_right (by omega),List.take_of_length_le (Nat.le_refl _),List.take_of_length_le (by omega)]
theorem z5y {l:List Nat} {zs:List ((Int×Int)×V)} (z1:zs.Perm (((List.range l.length).map fun i=>(-((Vbemak.nth l i * Vbemak.WHOLE % l.sum:Nat):Int),(i:Int))).zip ((List.range l.length).map fun i=>V.int (i:Nat)))) (z2:zs.Pairwise fun p q=>KLe p.1 q.1):
  ∃ord:List Nat,zs.map (·.2)=ord.map (fun i=>V.int (i:Nat))∧ord.Perm (List.range l.length)∧ord.Pairwise fun a b=>VM.bef l.sum l a b=true:=by
 rw [zyr] at z1
 obtain ⟨ord,e,p⟩:=z6p z1 rfl
 refine ⟨ord,?_,p,?_⟩
 ·rw [e,List.map_map]
  rfl
 ·rw [e,List.pairwise_map] at z2
  have nd:ord.Pairwise (·≠·):=p.nodup_iff.mpr List.nodup_range
  refine (z2.and nd).imp fun {a b} h=>?_
  obtain ⟨h1,h2⟩:=h
  rw [VM.zmq]
  unfold KLe at h1
  dsimp only at h1
  omega
def z0l (A:Adr):Sp:=fun vs H Q _=>∃(p:Addr) (l:List Nat),vs=[.ref p]∧H p=some (.lst (vN l))∧l.length≤20∧l.sum < 2 ^ 190∧zWo A H∧
 ∀(H':Hp) (q:Addr),H' q=some (.lst (vN (Vbemak.shares l.sum l)))→But A.zob H H'→zWo A H'→Q (.ref q) H'
theorem zem (T:Txt K mg A) (LM:zHj base mg A):zG P w K mg base CX0 2 A.zph A.z7e ["parts"] (z0l A):=by
 obtain ⟨zpD,zWq⟩:=T.zNv
 have nN:=z0g.nd
 refine T.z8b.F.okT z0g (fun vs H Q E h=>?_) (fun B outer s H vs Q E hr h=>?_)
 ·obtain ⟨p,l,rfl,_⟩:=h
  rfl
 ·obtain ⟨p,l,rfl,hp,hlen,hsum,hT,k⟩:=h
  have hu:=zM hr
  have hcode:=T.zUg
  have hcd:=LM.zFn
  refine ⟨_,(zd (zK (i:=1) nN rfl (Or.inr rfl) (z5 (zbm rfl) (by rfl) T.v_sum (by rfl) (za (pv 0) zb)))
   (zd (zI (zC zMb (pv 1) zm (zE _)) (ze (zh (zZ zWs (zA (za zm zb)) (z5 zxb (by rfl) T.zAd PySem.boot_len (za (pv 0) zb))))) zx)
   (zd (zso (i:=2) (tt:=zSo) (te:=(tOp (rI (fun _ j=>0 < j∧j < 2 ^ 200) fun i j=>.int (i / j)) (tOp (rI z6l fun i j=>.int (i * j)) (tC (.int (10000))) (zAb 6)) (zAb 1))) rfl nN rfl rfl (ztq rfl rfl rfl rfl) (zYb (pv 0)) (z9c (own:=[("part",6)]) (by rfl)) (fun _ _ _ _ _=>(zrb (i:=6) nN rfl (Or.inl rfl))) (fun _ _ _ _ _=>zKh) (fun _ _ _ _ _=>(zZ zQy (zZ zXg (zp (v:=.int (10000)) rfl zWq ⟨_,rfl⟩) (pv 6)) (pv 1))))
   (zd (zK (i:=3) nN rfl (Or.inl rfl) (zZ zod (zp (v:=.int (10000)) rfl zWq ⟨_,rfl⟩) (z5 (zbm rfl) (by rfl) T.v_sum (by rfl) (za (pv 2) zb))))
   (zd (zK (i:=4) nN rfl (Or.inl rfl) (zIu rfl (k:=0) (px:="at") (fr:=["parts","total"]) (frn:=[0,1]) (tb:=(zFz (zVd (tUn (rU fun i=>.int (-i)) (tOp (rI (fun _ j=>0 < j) fun i j=>.int (i % j)) (tOp (rI z6l fun i j=>.int (i * j)) (tC (.int (10000))) (tOp (zBB K) (zAb 1) (zAb 0))) (zAb 2))) (zVd (zAb 0) zjh)))) (hr.mono (by decide)) rfl T.zGk hcode hcd LM.bm (zSs rfl rfl rfl rfl rfl rfl rfl) rfl rfl (fun _ _ _ _=>rfl) (fun _ _ h=>h) (by intro y hy;simp only [List.mem_cons,List.not_mem_nil,or_false] at hy;rcases hy with rfl|rfl<;>exact ⟨_,rfl⟩) rfl (fun i y j e1 e2=>by rcases i with _|_|i<;>cases e1<;>cases e2<;>exact ⟨rfl,rfl⟩) (za (zWx rfl T.zPv (za (z5 zxb (by rfl) T.zAd PySem.boot_len (za (pv 0) zb)) zb)) zb) (fun _ _ _ _ _=>(zjf (za (zen zmk (zZ zAB (zZ zXg (zp (v:=.int (10000)) rfl zWq ⟨_,rfl⟩) (zS zH (pv 1) (pv 0) (fun _ _=>rfl))) (pv 2))) (za (pv 0) zb))))))
   (zd (zMd PassesOwn.never rfl (zYb (zFt ztv (pv 4) zpA (zMq (pv 3)))) (zrb (i:=5) nN rfl (Or.inl rfl)) (ze (zZq (pv 2) (pv 5) zwo zm zcu set_list)))
   (ze (zh (pv 2))))))))),?_⟩
  refine ⟨_,rfl,p,_,rfl,SqL.of hp,?_⟩
  rw [VM.zKj]
  refine ⟨_,rfl,rfl,_,rfl,?_⟩
  refine zmb (fun c1=>?_) fun c1=>?_
  ·have c1:l.sum=0:=by
    have:=of_decide_eq_true c1
    injection this with this
    omega
   refine ⟨(by show 1≤sizeLine;decide),fun l0 h0=>?_⟩
   have s0:=zq (o:=.lst [.int 0]) h0
   refine ⟨_,rfl,p,_,rfl,.inl (SqL.of (s0 _ _ hp)),?_⟩
   rw [zne]
   refine ⟨l0,_,_,rfl,rfl,zc,by omega,by omega,?_,fun q hq=>?_⟩
   ·show 1 * (l.length:Int).toNat≤sizeLine
    rw [Nat.one_mul,Int.toNat_natCast]
    exact Nat.le_trans hlen (by decide)
   ·have s1:=zq (o:=.lst (List.replicate (l.length:Int).toNat [V.int 0]).flatten) hq
    refine k _ q ?_ (fun b o e _=>s1 _ _ (s0 _ _ e)) ((hT.same s0).same s1)
    rw [zc,Int.toNat_natCast,List.flatten_replicate_singleton,c1]
    show _=some (HO.lst (((Vbemak.shares 0 l).map Vbemak.nat).map V.int))
    rw [VM.zJu,List.map_replicate]
  have c1:0 < l.sum:=by
   have:¬l.sum=0:=fun e=>c1 (decide_eq_true (by rw [e];rfl))
   omega
  refine ⟨_,rfl,p,rfl,⟨_,SqL.of hp⟩,fun D hD=>zUe (K:=K) (a:=p) (xs:=vN l) (fun i H'=>zB H H'∧H' D=some (.lst (((l.take i).map fun n=>((n * Vbemak.WHOLE / l.sum:Nat):Int)).map V.int)))
   ⟨zq hD,zc⟩ (fun i H' _ ⟨z,_⟩=>SqL.of (z _ _ hp)) ?_ ?_⟩
  ·rintro i x H' hx ⟨s1,hD1⟩
   obtain ⟨n,hn,rfl⟩:=zPs hx
   refine ⟨rfl,?_⟩
   refine ⟨_,rfl,_,_,rfl,rfl,.inl ⟨by decide,by decide⟩,_,rfl,_,_,rfl,rfl,⟨by omega,by omega⟩,?_⟩
   refine ⟨_,hD1,?_,?_,?_⟩
   ·rw [List.length_map,List.length_map]
    exact Nat.lt_of_le_of_lt (Nat.le_trans (zmd i _) hlen) (by decide)
   ·exact fun b o e=>by rw [zi (zk e hD)];exact s1 _ _ e
   ·dsimp only
    rw [zSy,zc,take_snoc hn,List.map_append,List.map_append]
    rfl
  rintro H1 ⟨s1,hD1⟩
  rw [zne,List.take_length] at hD1
  refine ⟨_,rfl,D,_,rfl,SqL.of hD1,_,_,rfl,rfl,?_⟩
  have hfl:(l.map fun n=>n * Vbemak.WHOLE / l.sum).sum≤Vbemak.WHOLE:=by
   have:=VM.zzm c1 l
   rw [Nat.mul_comm l.sum] at this
   exact Nat.le_of_mul_le_mul_right this c1
  have es:(l.map fun n=>((n * Vbemak.WHOLE / l.sum:Nat):Int)).sum=((l.map fun n=>n * Vbemak.WHOLE / l.sum).sum:Nat):=by
   rw [←VM.zKj,List.map_map]
   rfl
  rw [es]
  obtain ⟨m,hm⟩:∃m:Nat,(10000:Int) - ((l.map fun n=>n * Vbemak.WHOLE / l.sum).sum:Nat)=m:=⟨10000 - (l.map fun n=>n * Vbemak.WHOLE / l.sum).sum,by unfold Vbemak.WHOLE at hfl ⊢;omega⟩
  dsimp only
  rw [hm]
  have hp1:=s1 _ _ hp
  have t1:zWo A H1:=hT.same s1
  have pT:∀{b:Addr} {xs:List V},H1 b=some (.lst xs)→b≠A.zob:=fun e=>by
   obtain ⟨ps,hps⟩:=zye t1
   exact zZb e hps (by intro z;cases z)
  refine ⟨_,rfl,p,_,rfl,.inl (SqL.of hp1),?_⟩
  rw [zne]
  refine ⟨l.length,rfl,fun a t u v ha=>?_⟩
  have s2:=zq (o:=Known a (zFp l.length t u v)) ha
  refine ⟨a,l.length,t,u,v,(List.range l.length).map fun i=>(-((Vbemak.nth l i * Vbemak.WHOLE % l.sum:Nat):Int),(i:Int)),rfl,zc,by omega,by rw [List.length_map,List.length_range],t1.same s2,?_,?_⟩
  ·intro i kk H3 hi hk s3
   rw [List.getElem?_map,List.getElem?_range hi] at hk
   have hk:=Option.some.inj hk
   subst hk
   have hp3:=s3 _ _ (s2 _ _ hp1) (pT hp1)
   have en:Vbemak.nth l i=l[i]:=by
    unfold Vbemak.nth
    rw [List.getElem?_eq_getElem hi]
    rfl
   refine ⟨_,rfl,_,rfl,p,_,_,.int (l[i]:Nat),rfl,rfl,SqL.of hp3,at_of (j:=i) rfl ?_,_,_,rfl,rfl,.inl ⟨by decide,by decide⟩,_,rfl,_,_,rfl,rfl,by omega,_,rfl,_,rfl,(by show 2≤sizeLine;decide),fun g hg=>⟨zq hg,g,rfl,?_⟩⟩
   ·rw [List.getElem?_map,List.getElem?_map,List.getElem?_eq_getElem hi]
    rfl
   ·rw [zc,z4y]
    dsimp only
    rw [en]
  ·intro H3 O zs s3 t3 hO0 hO hz1 hz2
   obtain ⟨ord,eo,po,bo⟩:=z5y hz1 hz2
   rw [eo] at hO
   have hD3:=s3 _ _ (s2 _ _ hD1) (pT hD1)
   have nd:ord.Nodup:=po.nodup_iff.mpr List.nodup_range
   have oin:∀x∈ord,x < l.length:=fun x hx=>List.mem_range.mp (po.mem_iff.mp hx)
   refine ⟨_,rfl,_,rfl,_,rfl,O,_,rfl,SqL.of hO,fun o2 ho2=>?_⟩
   rw [zdz,←List.map_take]
   have s4:=zq (o:=.lst ((ord.take m).map fun i=>V.int (i:Nat))) ho2
   have no2:o2≠D:=(zk hD3 ho2).symm
   have hD4:=s4 _ _ hD3
   generalize hshs:(l.map fun n=>((n * Vbemak.WHOLE / l.sum:Nat):Int))=shs at hD4
   have shl:shs.length=l.length:=by rw [←hshs,List.length_map]
   refine ⟨o2,rfl,⟨_,SqL.of zc⟩,zwd (K:=K) (a:=o2) (xs:=(ord.take m).map fun i=>V.int (i:Nat)) (fun i σ H'=>∃v5 v6:Option V,σ=[some (.ref p),some (.int (l.sum:Nat)),some (.ref D),some (.int (m:Nat)),some (.ref O),v5,v6]∧But D (upd H3 o2 (.lst ((ord.take m).map fun i=>V.int (i:Nat)))) H'∧H' D=some (.lst ((VM.bump shs ((ord.take m).take i)).map V.int)))
    ⟨none,none,rfl,fun _ _ e _=>e,hD4⟩ (fun i σ H' _ ⟨_,_,_,z,_⟩=>SqL.of (z _ _ zc no2)) ?_ ?_⟩
   ·rintro i y σ H5 hi ⟨v5,v6,rfl,k5,hD5⟩
    obtain ⟨at_,hat,rfl⟩:=zCd hi
    have hb:at_ < (VM.bump shs ((ord.take m).take i)).length:=by
     rw [VM.zYt,shl]
     exact oin _ (List.mem_of_mem_take (List.mem_of_getElem? hat))
    refine ⟨_,rfl,_,rfl,D,_,at_,_,rfl,rfl,SqL.of hD5,getD_at hb,_,_,rfl,rfl,D,_,_,at_,rfl,rfl,hD5,zHq (by rw [List.length_map];exact hb),?_⟩
    refine ⟨_,_,rfl,fun b o e n=>?_,?_⟩
    ·rw [zi n]
     exact k5 _ _ e n
    ·rw [zc,zQj,take_snoc hat]
     unfold VM.bump
     rw [List.foldl_append]
     rfl
   ·rintro σ H5 ⟨v5,v6,rfl,k5,hD5⟩
    rw [List.length_map,List.take_length] at hD5
    refine ⟨_,rfl,k H5 D ?_ (fun b o e n=>?_) (k5.tab hD4 (t3.same s4))⟩
    ·rw [hD5,←hshs,VM.z6u c1 po bo hm.symm]
    ·exact k5 _ _ (s4 _ _ (s3 _ _ (s2 _ _ (s1 _ _ e)) n)) (zk e hD)
def zRu (A:Adr):Sp:=fun vs H Q _=>∃(L:Loc) (s:Sta) (x y:Int) (u n:Nat),vs=[.ref L.bk,.int x,.int y]∧x=u∧y=n∧n≤1000000000∧zw A H L s∧VM.SInv s∧VM.zGe s∧zX A H L (VM.zY s (.disclose u n)) Q
theorem zHu (T:Txt K mg A) (LM:zHj base mg A):zG P w K mg base CX0 5 A.z0p A.z5p ["book","use","used"] (zRu A):=by
 have zPd:=@z6e P w K mg base A T
 have z0w:=@zAu P w K mg base A T
 have zbe:=@zVf P w K mg base A T
 have zzn:=@zem P w K mg base A T LM
 have zAt:=@zss P w K mg base A T
 obtain ⟨zib,zF⟩:=T.zfb
 have nN:=zOn.nd
 refine T.zae.F.ok zOn (fun vs H Q E h=>?_) (fun cdv B outer s H vs Q E hr h=>?_)
 ·obtain ⟨L,s,x,y,u,n,rfl,_⟩:=h
  rfl
 ·obtain ⟨L,s,x,y,u,n,rfl,rfl,rfl,hn,B,I,TI,k⟩:=h
  have hu:=zM hr
  refine ⟨_,(zd (zK (i:=3) nN rfl (Or.inl rfl) (zn zPd hr T.zkb (za (pv 0) (za (zn zbe hr T.ztb (za (zf (pv 0) rfl) (za (pv 1) zb))) zb))))
   (zd (zK (i:=4) nN rfl (Or.inl rfl) (z5 (zPf rfl) (by rfl) T.zXk (by rfl) (za (zZ zod (pv 2) (z5 (zbm rfl) (by rfl) T.v_sum (by rfl) (za (pv 3) zb))) (za zm zb))))
   (ze (zh (zZ z2h (zA (za (zp (v:=.int (0)) rfl zF ⟨_,rfl⟩) zb)) (zn zzn hr T.z8b (za (zn z0w hr T.zde (za (pv 3) (za (zn zAt hr T.zqd (za (pv 0) zb)) (za (pv 4) zb)))) zb))))))),?_⟩
  obtain ⟨dx,hb⟩:=B.book
  have rl:s.runs.length≤10000:=Nat.le_trans I.nruns (by decide)
  have ea:VM.zY s (.disclose u n)=(s,0::(Vbemak.disclosed s u n).map Vbemak.nat):=zIc rfl
  rw [VM.zJm] at ea
  refine ⟨_,rfl,_,rfl,L.bk,A.zg,dx,_,_,rfl,hb,T.zt,T.zR,zBb _ _ _ _ _ _ _ _ _ _,_,rfl,L.rl,s.runs,_,rfl,B.runs,rl,fun H1 q1 hq1 hq10 s1=>?_⟩
  have ef:(s.runs.filter fun r=>decide (V.int (st0 r.st)=V.int 3)&&decide (V.int (st2 r.st)=V.int (u:Int)))=s.runs.filter (Vbemak.usedFor u):=List.filter_congr fun r _=>zBv u r
  rw [ef] at hq1
  refine ⟨L,s,q1,_,rfl,B.same s1,I,hq1,Nat.le_trans (List.length_filter_le ..) rl,fun r hr=>(List.mem_filter.mp hr).1,fun H2 c hc s2=>?_⟩
  have sA:=s1.trans s2
  have k1:((List.range 10).map fun t=>Vbemak.count (Vbemak.ofTech s t (s.runs.filter (Vbemak.usedFor u)))).length=10:=by rw [List.length_map,List.length_range]
  have w1:((List.range 10).map (Vbemak.residual s)).length=10:=by rw [List.length_map,List.length_range]
  have wb:((List.range 10).map (Vbemak.residual s)).sum≤10 * 256000000000:=by
   have:=VM.zhn (b:=256000000000) (l:=(List.range 10).map (Vbemak.residual s)) fun x hx=>by
    obtain ⟨t,_,rfl⟩:=List.mem_map.mp hx
    exact VM.zav TI I.ntot t
   rw [w1] at this
   exact this
  have kb:((List.range 10).map fun t=>Vbemak.count (Vbemak.ofTech s t (s.runs.filter (Vbemak.usedFor u)))).sum≤10 * 256000000000:=by
   have:=VM.zhn (b:=256000000000) (l:=(List.range 10).map fun t=>Vbemak.count (Vbemak.ofTech s t (s.runs.filter (Vbemak.usedFor u)))) fun x hx=>by
    obtain ⟨t,_,rfl⟩:=List.mem_map.mp hx
    exact VM.zIz I (fun r hr=>(List.mem_filter.mp (List.mem_filter.mp hr).1).1) (Nat.le_trans (List.length_filter_le ..) (Nat.le_trans (List.length_filter_le ..) I.nruns))
   rw [k1] at this
   exact this
  have ea:VM.zY s (.disclose u n)=(s,0::(Vbemak.shares (VM.zYc ((List.range 10).map fun t=>Vbemak.count (Vbemak.ofTech s t (s.runs.filter (Vbemak.usedFor u)))) ((List.range 10).map (Vbemak.residual s)) n).sum (VM.zYc ((List.range 10).map fun t=>Vbemak.count (Vbemak.ofTech s t (s.runs.filter (Vbemak.usedFor u)))) ((List.range 10).map (Vbemak.residual s)) n)).map Vbemak.nat):=ea
  have dl:=VM.zxl (used:=n) k1 w1
  have ds:=VM.zcl (used:=n) (k1.trans w1.symm)
  generalize hks:((List.range 10).map fun t=>Vbemak.count (Vbemak.ofTech s t (s.runs.filter (Vbemak.usedFor u))))=ks at hc ea k1 kb dl ds
  have eu:(if (0:Int) > (n:Int) - (ks.sum:Nat) then 0 else (n:Int) - (ks.sum:Nat))=((n - ks.sum:Nat):Int):=by
   by_cases z:(0:Int) > (n:Int) - (ks.sum:Nat)
   ·rw [if_pos z]
    omega
   ·rw [if_neg z]
    omega
  refine ⟨_,rfl,_,rfl,c,_,rfl,SqL.of hc,_,_,rfl,rfl,_,_,rfl,?_⟩
  rw [VM.zKj,eu]
  refine ⟨(by show 1≤sizeLine;decide),fun l0 h0=>?_⟩
  have s3:=zq (o:=.lst [.int 0]) h0
  have B3:=(B.same sA).same s3
  refine ⟨_,rfl,_,rfl,L,s,rfl,B3,I,fun H4 w' hw' s4=>?_⟩
  have sB:=(sA.trans s3).trans s4
  have B4:=B3.same s4
  refine ⟨_,rfl,c,w',ks,_,_,n - ks.sum,rfl,rfl,s4 _ _ (s3 _ _ hc),hw',k1,w1,by omega,by omega,fun H5 p hp s5=>?_⟩
  have ep:z4p ks ((List.range 10).map (Vbemak.residual s)) (n - ks.sum)=VM.zYc ks ((List.range 10).map (Vbemak.residual s)) n:=rfl
  rw [ep] at hp
  have sC:=sB.trans s5
  have B5:=B4.same s5
  generalize hps:VM.zYc ks ((List.range 10).map (Vbemak.residual s)) n=ps at hp ea dl ds
  have sb:ps.sum < 2 ^ 190:=by
   rw [ds]
   split
   ·omega
   ·have h1:ks.sum + (n - ks.sum)≤2 ^ 50:=by omega
    have h2:=Nat.mul_le_mul h1 wb
    exact Nat.lt_of_le_of_lt h2 (by decide)
  refine ⟨p,ps,rfl,hp,by omega,sb,B5.t2,fun H6 q hq k6 t6=>?_⟩
  obtain ⟨pt,hpt⟩:=zye B5.t2
  have B6:=B5.atTab2 T k6 t6
  have hl6:H6 l0=some (.lst [.int 0]):=k6 _ _ (s5 _ _ (s4 _ _ zc)) (zP hpt (s5 _ _ (s4 _ _ zc)) (fun z=>nomatch z))
  refine ⟨l0,q,_,_,rfl,rfl,hl6,hq,?_,fun q7 hq7=>?_⟩
  ·rw [zne,VM.zWp,dl]
   show 12≤sizeLine
   decide
  ·exact k.fin (L':=L) (zs:=0::(Vbemak.shares ps.sum ps).map Vbemak.nat) ea B6 ⟨rfl,fun b o e n=>k6 _ _ (sC _ _ e) (fun z=>n (by rw [z];exact z1B A L)),fun b h=>.inl h⟩ hq7
end
end Pv
namespace L2
open PySem PySem.Spec PyProof.Rows PySem.Calls
section
variable {prog:Program} {w:World} {A:Around} {E:Value→Shared→Prop} {s:Shared}
theorem zNw {j t:Addr} {k:Nat} {ts} {x:Value} {Q:Value→Shared→Prop} (hj:s.heap.IsTupleIter j t k) (ht:s.heap.IsTuple t ts) (hx:ts[k]?=some x)
  (q:∀h',h'.IsTupleIter j t (k + 1)→Heap.SameBut j s.heap h'→Q x { s with heap:=h' }):wpAny (model prog w) A (Builtin.SmallTypes.nextOf (.ref j)) Q E s:=by
 obtain ⟨oj,e1,c1,d1⟩:=id hj
 obtain ⟨ot,e2,_,n2,d2⟩:=ht
 unfold Builtin.SmallTypes.nextOf
 refine wpAny_bind (wpAny_callSpecial?_slot (name:=Str.ofString "__next__") hj.typeIs F.slot_tuple_iterator_next (wpAny_call_entry F.slot_tuple_iterator_next hj.typeIs F.entry_tuple_iterator_next ?_ (F.args_tuple_iterator_next_1 _)))
 show wpAny _ _ (field (.ref j) 0 >>= _) _ _ s
 refine wpAny_bind (wpAny_field e1 d1 (x:=.ref t) rfl ?_)
 show wpAny _ _ (if (Value.ref t==Value.none)=true then _ else _) _ _ s
 rw [if_neg (show ¬((Value.ref t==Value.none)=true) from Bool.false_ne_true)]
 show wpAny _ _ (field (.ref j) 1 >>= _) _ _ s
 refine wpAny_bind (wpAny_field e1 d1 (x:=.int k 0) rfl ?_)
 show wpAny _ _ (seqItems? (.ref t) >>= _) _ _ s
 refine wpAny_bind (wpAny_seqItems e2 d2 ?_)
 simp only [Int.toNat_natCast,hx]
 refine wpAny_bind (wpAny_setField e1 d1 (by simp) (wpAny_pure ⟨x,rfl,wpAny_pure (q _ ?_ (Heap.SameBut.update ..))⟩))
 exact ⟨_,Heap.get?_update_self _ e1 (Obj.isFreed_of_fields (Obj.data_mapFields d1 _)),(Obj.cls_mapFields ..).trans c1,by rw [Obj.data_mapFields d1];simp [rawInt]⟩
theorem zIx {j t:Addr} {k:Nat} {ts} {Q:Value→Shared→Prop} (hh:A.handled=none) (hj:s.heap.IsTupleIter j t k) (ht:s.heap.IsTuple t ts) (hx:ts[k]?=none)
  (q:∀h' e,Heap.ExtBut j s.heap h'→(∃o,h'.get? e=some o∧o.cls=.type "StopIteration")→E (.ref e) { s with heap:=h' }):wpAny (model prog w) A (Builtin.SmallTypes.nextOf (.ref j)) Q E s:=by
 obtain ⟨oj,e1,c1,d1⟩:=id hj
 obtain ⟨ot,e2,_,n2,d2⟩:=ht
 unfold Builtin.SmallTypes.nextOf
 refine wpAny_bind (wpAny_callSpecial?_slot (name:=Str.ofString "__next__") hj.typeIs F.slot_tuple_iterator_next (wpAny_call_entry F.slot_tuple_iterator_next hj.typeIs F.entry_tuple_iterator_next ?_ (F.args_tuple_iterator_next_1 _)))
 show wpAny _ _ (field (.ref j) 0 >>= _) _ _ s
 refine wpAny_bind (wpAny_field e1 d1 (x:=.ref t) rfl ?_)
 show wpAny _ _ (if (Value.ref t==Value.none)=true then _ else _) _ _ s
 rw [if_neg (show ¬((Value.ref t==Value.none)=true) from Bool.false_ne_true)]
 show wpAny _ _ (field (.ref j) 1 >>= _) _ _ s
 refine wpAny_bind (wpAny_field e1 d1 (x:=.int k 0) rfl ?_)
 show wpAny _ _ (seqItems? (.ref t) >>= _) _ _ s
 refine wpAny_bind (wpAny_seqItems e2 d2 ?_)
 simp only [Int.toNat_natCast,hx]
 refine wpAny_bind (wpAny_rule (wpAny_bind (wpAny_setField e1 d1 (by simp) ?_)))
 show wpAny _ _ (newExc (.type "StopIteration") [] >>= _) _ _ _
 refine wpAny_bind ?_
 simp only [newExc,newTuple]
 refine wpAny_bind (wpAny_newObj_type ?_ (by size_fits))
 refine wpAny_bind (m:=firstArgMember _ _) (wpAny_of_eq (a:=Value.none) (by first|rfl|(simp only [firstArgMember];rfl)) ?_)
 refine wpAny_newObj_type ?_ (by size_fits)
 simp only [raiseNew]
 refine wpAny_bind (wpAny_handled ?_)
 first|rw [show A.in1.handled=none from hh]|rw [hh]
 refine wpAny_bind (wpAny_pure (wpAny_throw ?_))
 exact q _ _ (((Heap.SameBut.update ..).extBut.push _).push _) ⟨_,Heap.get?_push_size _ rfl,rfl⟩
variable {z TI TO i1 i2 t l:Addr} {k1 k2:Nat} {xs ys:Array Value} {x y a b:Value}
theorem zfx {Q:Value→Shared→Prop} (D:ZipApart z TI TO i1 i2 t l) (hz:IsZip s.heap z TI TO .none) (hTI:IsPair s.heap TI (.ref i1) (.ref i2)) (hTO:IsPair s.heap TO a b)
  (h1:s.heap.IsTupleIter i1 t k1) (h2:s.heap.IsListIter i2 l k2) (hl1:s.heap.IsTuple t xs) (hl2:s.heap.IsList l ys) (hx:xs[k1]?=some x) (hy:ys[k2]?=some y)
  (q:∀h',IsZip h' z TI TO (rawInt s.heap.objs.size)→IsPair h' TO x y→h'.IsTupleIter i1 t (k1 + 1)→h'.IsListIter i2 l (k2 + 1)→IsPair h' s.heap.objs.size x y→h'.objs.size=s.heap.objs.size + 1→
   (∀c o,c≠z→c≠TO→c≠i1→c≠i2→s.heap.get? c=some o→h'.get? c=some o)→Q (.ref s.heap.objs.size) { s with heap:=h' }):
  wpAny (model prog w) A (Builtin.«zip.__next__» ⟨[.ref z],[]⟩) (fun fin s'=>∃v,fin=.done (.ret v)∧Q v s') E s:=by
 show wpAny _ _ (field (.ref z) 2 >>= _) _ _ _
 refine wpAny_bind (wpAny_field hz rfl (x:=.bool false) rfl ?_)
 show wpAny _ _ (field (.ref z) 3 >>= _) _ _ _
 refine wpAny_bind (wpAny_field hz rfl (x:=.ref TI) rfl ?_)
 refine wpAny_bind (wpAny_seqItems hTI rfl ?_)
 show wpAny _ _ (Builtin.SmallTypes.ownedTupleIsFree (.ref z) >>= _) _ _ _
 refine wpAny_bind ?_
 unfold Builtin.SmallTypes.ownedTupleIsFree
 refine wpAny_bind (wpAny_field hz rfl (x:=.none) rfl (wpAny_pure ?_))
 simp only [if_true]
 refine wpAny_bind (wpAny_rule (wpAny_bind (wpAny_field hz rfl (x:=.ref TO) rfl ?_)))
 refine wpAny_bind (wpAny_setField_rec hz (by simp) fun g1 gz1 b1=>?_)
 replace gz1:IsZip g1 z TI TO .ellipsis:=gz1
 refine wpAny_bind ?_
 simp only [List.zipIdx_cons,List.zipIdx_nil,List.forIn_cons,List.forIn_nil]
 refine wpAny_bind (wpAny_bind (wpAny_onRaise ?_))
 show wpAny _ _ (Builtin.SmallTypes.nextOf (.ref i1) >>= _) _ _ _
 refine wpAny_bind (zNw (h1.extBut b1.extBut D.i1z) (hl1.extBut b1.extBut D.l1z) hx fun g2 gi2 b2=>wpAny_pure ?_)
 have gT2:IsPair g2 TO a b:=b2.extBut _ _ D.TOi1 (b1.extBut _ _ D.TOz hTO)
 refine wpAny_bind (wpAny_seqItems gT2 rfl ?_)
 refine wpAny_bind (wpAny_updateSeq_pair gT2 fun g3 gT3 b3=>?_)
 replace gT3:IsPair g3 TO x b:=gT3
 refine wpAny_bind (wpAny_letGo (wpAny_pure ?_))
 refine wpAny_bind (wpAny_bind (wpAny_onRaise ?_))
 show wpAny _ _ (Builtin.SmallTypes.nextOf (.ref i2) >>= _) _ _ _
 refine wpAny_bind (wpAny_nextOf_list_item (((h2.extBut b1.extBut D.i2z).extBut b2.extBut D.i12.symm).extBut b3.extBut D.TOi2.symm) (((hl2.extBut b1.extBut D.l2z).extBut b2.extBut D.l2i1).extBut b3.extBut D.l2TO) hy fun g4 gi4 b4=>wpAny_pure ?_)
 have gT4:IsPair g4 TO x b:=b4.extBut _ _ D.TOi2 gT3
 refine wpAny_bind (wpAny_seqItems gT4 rfl ?_)
 refine wpAny_bind (wpAny_updateSeq_pair gT4 fun g5 gT5 b5=>?_)
 replace gT5:IsPair g5 TO x y:=gT5
 refine wpAny_bind (wpAny_letGo (wpAny_pure (wpAny_pure ?_)))
 refine wpAny_bind (wpAny_seqItems gT5 rfl ?_)
 refine wpAny_bind (wpAny_newTuple ?_)
 have es:g5.objs.size=s.heap.objs.size:=by rw [b5.1,b4.1,b3.1,b2.1,b1.1]
 have gz5:IsZip g5 z TI TO .ellipsis:=b5.extBut _ _ D.TOz.symm (b4.extBut _ _ D.i2z.symm (b3.extBut _ _ D.TOz.symm (b2.extBut _ _ D.i1z.symm gz1)))
 have kp:∀c o,c≠z→c≠TO→c≠i1→c≠i2→s.heap.get? c=some o→g5.get? c=some o:=fun c o n1 n2 n3 n4 e=>b5.extBut _ _ n2 (b4.extBut _ _ n4 (b3.extBut _ _ n2 (b2.extBut _ _ n3 (b1.extBut _ _ n1 e))))
 have gi1:g5.IsTupleIter i1 t (k1 + 1):=((gi2.extBut b3.extBut D.TOi1.symm).extBut b4.extBut D.i12).extBut b5.extBut D.TOi1.symm
 have gi2':g5.IsListIter i2 l (k2 + 1):=gi4.extBut b5.extBut D.TOi2.symm
 have lz:z < g5.objs.size:=Heap.lt_size gz5
 show wpAny _ _ (Builtin.SmallTypes.ownedTupleHandOut (.ref z) (.ref g5.objs.size) >>= _) _ _ _
 refine wpAny_bind ?_
 unfold Builtin.SmallTypes.ownedTupleHandOut
 have gz6:IsZip (g5.push { cls:=.type "tuple",data:=.seq #[x,y] }) z TI TO .ellipsis:=Heap.get?_push_of_some _ gz5
 refine wpAny_bind (wpAny_setField_rec gz6 (by simp) fun g7 gz7 b7=>?_)
 replace gz7:IsZip g7 z TI TO (rawInt g5.objs.size):=gz7
 refine wpAny_setField_rec gz7 (by simp) fun g8 gz8 b8=>?_
 replace gz8:IsZip g8 z TI TO (rawInt g5.objs.size):=gz8
 have up:∀c o,c≠z→g5.get? c=some o→g8.get? c=some o:=fun c o n e=>b8.extBut _ _ n (b7.extBut _ _ n (Heap.get?_push_of_some _ e))
 have gT8:IsPair g8 g5.objs.size x y:=b8.extBut _ _ (Nat.ne_of_gt lz) (b7.extBut _ _ (Nat.ne_of_gt lz) (Heap.get?_push_size _ rfl))
 have e8:g8.objs.size=g5.objs.size + 1:=by rw [b8.1,b7.1,Heap.size_push]
 rw [es] at gz8 gT8 e8
 refine wpAny_pure ⟨_,rfl,?_⟩
 show Q (.ref g5.objs.size) _
 rw [es]
 exact q g8 gz8 (up _ _ D.TOz gT5) (gi1.at fun o e=>up _ o D.i1z e) (gi2'.at fun o e=>up _ o D.i2z e) gT8 e8 fun c o n1 n2 n3 n4 e=>up c o n1 (kp c o n1 n2 n3 n4 e)
theorem z1y {Q:Fin→Shared→Prop} (hh:A.handled=none) (D:ZipApart z TI TO i1 i2 t l) (hz:IsZip s.heap z TI TO .none) (hTI:IsPair s.heap TI (.ref i1) (.ref i2)) (hTO:IsPair s.heap TO a b)
  (h1:s.heap.IsTupleIter i1 t k1) (h2:s.heap.IsListIter i2 l k2) (hl1:s.heap.IsTuple t xs) (hl2:s.heap.IsList l ys) (hx:xs[k1]?=none)
  (q:∀h' e,(∀c o,c≠z→c≠TO→c≠i1→c≠i2→s.heap.get? c=some o→h'.get? c=some o)→(∃o,h'.get? e=some o∧o.cls=.type "StopIteration")→E (.ref e) { s with heap:=h' }):
  wpAny (model prog w) A (Builtin.«zip.__next__» ⟨[.ref z],[]⟩) Q E s:=by
 show wpAny _ _ (field (.ref z) 2 >>= _) _ _ _
 refine wpAny_bind (wpAny_field hz rfl (x:=.bool false) rfl ?_)
 show wpAny _ _ (field (.ref z) 3 >>= _) _ _ _
 refine wpAny_bind (wpAny_field hz rfl (x:=.ref TI) rfl ?_)
 refine wpAny_bind (wpAny_seqItems hTI rfl ?_)
 show wpAny _ _ (Builtin.SmallTypes.ownedTupleIsFree (.ref z) >>= _) _ _ _
 refine wpAny_bind ?_
 unfold Builtin.SmallTypes.ownedTupleIsFree
 refine wpAny_bind (wpAny_field hz rfl (x:=.none) rfl (wpAny_pure ?_))
 simp only [if_true]
 refine wpAny_bind (wpAny_rule (wpAny_bind (wpAny_field hz rfl (x:=.ref TO) rfl ?_)))
 refine wpAny_bind (wpAny_setField_rec hz (by simp) fun g1 gz1 b1=>?_)
 replace gz1:IsZip g1 z TI TO .ellipsis:=gz1
 refine wpAny_bind ?_
 simp only [List.zipIdx_cons,List.zipIdx_nil,List.forIn_cons,List.forIn_nil]
 refine wpAny_bind (wpAny_bind (wpAny_onRaise ?_))
 show wpAny _ _ (Builtin.SmallTypes.nextOf (.ref i1) >>= _) _ _ _
 refine wpAny_bind (zIx hh (h1.extBut b1.extBut D.i1z) (hl1.extBut b1.extBut D.l1z) hx fun g2 e b2 he=>?_)
 obtain ⟨oe,e1,e2⟩:=he
 have gz2:IsZip g2 z TI TO .ellipsis:=b2 _ _ D.i1z.symm gz1
 have ne:e≠z:=fun x=>by subst x;rw [gz2] at e1;cases e1;simp at e2
 exact wpAny_setField_rec gz2 (by simp) fun g3 _ b3=>q g3 e (fun c o n1 _ n3 _ x=>b3.extBut _ _ n1 (b2 _ _ n3 (b1.extBut _ _ n1 x))) ⟨oe,b3.extBut _ _ ne e1,e2⟩
theorem z8u {Q:Option Value→Shared→Prop} (D:ZipApart z TI TO i1 i2 t l) (hz:IsZip s.heap z TI TO .none) (hTI:IsPair s.heap TI (.ref i1) (.ref i2)) (hTO:IsPair s.heap TO a b)
  (h1:s.heap.IsTupleIter i1 t k1) (h2:s.heap.IsListIter i2 l k2) (hl1:s.heap.IsTuple t xs) (hl2:s.heap.IsList l ys) (hx:xs[k1]?=some x) (hy:ys[k2]?=some y)
  (q:∀h',IsZip h' z TI TO (rawInt s.heap.objs.size)→IsPair h' TO x y→h'.IsTupleIter i1 t (k1 + 1)→h'.IsListIter i2 l (k2 + 1)→IsPair h' s.heap.objs.size x y→h'.objs.size=s.heap.objs.size + 1→
   (∀c o,c≠z→c≠TO→c≠i1→c≠i2→s.heap.get? c=some o→h'.get? c=some o)→Q (some (.ref s.heap.objs.size)) { s with heap:=h' }):wpAny (model prog w) A (pyNext (.ref z)) Q E s:=by
 have hT:s.TypeIs (.ref z) "zip":=⟨_,hz,rfl⟩
 unfold pyNext
 exact wpAny_bind (wpAny_attempt (wpAny_callSpecial?_slot (name:=Str.ofString "__next__") hT F.slot_zip_next (wpAny_call_entry F.slot_zip_next hT F.entry_zip_next (zfx D hz hTI hTO h1 h2 hl1 hl2 hx hy fun h' a1 a2 a3 a4 a5 a6 a7=>wpAny_pure (q h' a1 a2 a3 a4 a5 a6 a7)) (F.args_zip_next_1 _))))
theorem zsp {Q:Option Value→Shared→Prop} (hh:A.handled=none) (D:ZipApart z TI TO i1 i2 t l) (hz:IsZip s.heap z TI TO .none) (hTI:IsPair s.heap TI (.ref i1) (.ref i2)) (hTO:IsPair s.heap TO a b)
  (h1:s.heap.IsTupleIter i1 t k1) (h2:s.heap.IsListIter i2 l k2) (hl1:s.heap.IsTuple t xs) (hl2:s.heap.IsList l ys) (hx:xs[k1]?=none)
  (q:∀h',(∀c o,c≠z→c≠TO→c≠i1→c≠i2→s.heap.get? c=some o→h'.get? c=some o)→Q none { s with heap:=h' }):wpAny (model prog w) A (pyNext (.ref z)) Q E s:=by
 have hT:s.TypeIs (.ref z) "zip":=⟨_,hz,rfl⟩
 unfold pyNext
 refine wpAny_bind (wpAny_attempt (wpAny_callSpecial?_slot (name:=Str.ofString "__next__") hT F.slot_zip_next (wpAny_call_entry F.slot_zip_next hT F.entry_zip_next (z1y hh D hz hTI hTO h1 h2 hl1 hl2 hx fun h' e k he=>?_) (F.args_zip_next_1 _))))
 obtain ⟨o,e1,e2⟩:=he
 exact wpAny_bind (wpAny_isInstance (T:="StopIteration") (b:=true) ⟨o,e1,e2⟩ isSubtype_stop (wpAny_pure (q _ k)))
end
abbrev zT1 (h:Heap) (t:Addr):Heap:=h.push { cls:=.type "tuple_iterator",data:=.fields #[.ref t,.int 0 0] }
abbrev zT2 (h:Heap) (t l:Addr):Heap:=(zT1 h t).push { cls:=.type "list_iterator",data:=.fields #[.ref l,.int 0 0] }
abbrev zT3 (h:Heap) (t l:Addr):Heap:=(zT2 h t l).push { cls:=.type "tuple",data:=.seq #[.ref h.objs.size,.ref (zT1 h t).objs.size] }
abbrev zT4 (h:Heap) (t l:Addr):Heap:=(zT3 h t l).push { cls:=.type "tuple",data:=.seq #[.none,.none] }
abbrev zT5 (h:Heap) (t l:Addr):Heap:=(zT4 h t l).push { cls:=.type "zip",data:=.fields #[.none,.bool false,.bool false,.ref (zT2 h t l).objs.size,.ref (zT3 h t l).objs.size] }
theorem zUy (t l:Addr) (xs ys:Array Value):
  Meets (Builtin.«zip.__new__» ⟨[.type "zip",.ref t,.ref l],[]⟩) (fun _ R s=>s.heap.IsTuple t xs∧s.heap.IsList l ys∧R (.ok (.ret (.ref (zT4 s.heap t l).objs.size))) { s with heap:=zT5 s.heap t l }):=
 .of_wp fun prog w A R s h=>by
  obtain ⟨hp,g,d,tk,os⟩:=s
  obtain ⟨h1,h2,h⟩:=h
  have hsub:=sub_zip
  have k1:Heap.IsTuple (Shared.heap ⟨hp,g,d,tk,os⟩) t xs:=h1
  have k2:Heap.IsList (Shared.heap ⟨hp.push { cls:=.type "tuple_iterator",data:=.fields #[.ref t,.int 0 0] },g,d,tk,os⟩) l ys:=Heap.IsList.push h2 _
  wp_walk using wpAny_pyIter_tuple k1,wpAny_pyIter_list k2
  exact ⟨_,rfl,h⟩
section
variable {prog:Program} {w:World} {A:Around} {E:Value→Shared→Prop} {s:Shared}
theorem zOx {t l:Addr} {xs ys:Array Value} {Q:Value→Shared→Prop} (h1:s.heap.IsTuple t xs) (h2:s.heap.IsList l ys)
  (h:∀h',IsZip h' (s.heap.objs.size + 4) (s.heap.objs.size + 2) (s.heap.objs.size + 3) .none→IsPair h' (s.heap.objs.size + 2) (.ref s.heap.objs.size) (.ref (s.heap.objs.size + 1))→IsPair h' (s.heap.objs.size + 3) .none .none→
   h'.IsTupleIter s.heap.objs.size t 0→h'.IsListIter (s.heap.objs.size + 1) l 0→(∀c o,s.heap.get? c=some o→h'.get? c=some o)→Q (.ref (s.heap.objs.size + 4)) { s with heap:=h' }):
  wpAny (model prog w) A (call (.type "zip") [.ref t,.ref l]) Q E s:=by
 refine callType_new F.called_zip (by decide) (F.typeCall_zip_2 _ _) (F.newCall_zip_2 _ _) (fun obj=>F.args_object_init_3 obj _ _) F.entry_zip_new (zUy t l xs ys) ⟨h1,h2,?_⟩
 have z1:(zT1 s.heap t).objs.size=s.heap.objs.size + 1:=Heap.size_push ..
 have z2:(zT2 s.heap t l).objs.size=s.heap.objs.size + 2:=by rw [Heap.size_push,z1]
 have z3:(zT3 s.heap t l).objs.size=s.heap.objs.size + 3:=by rw [Heap.size_push,z2]
 have z4:(zT4 s.heap t l).objs.size=s.heap.objs.size + 4:=by rw [Heap.size_push,z3]
 have g5:(zT5 s.heap t l).get? (zT4 s.heap t l).objs.size=some _:=Heap.get?_push_size _ rfl
 have g4:(zT5 s.heap t l).get? (zT3 s.heap t l).objs.size=some _:=Heap.get?_push_of_some _ (Heap.get?_push_size _ rfl)
 have g3:(zT5 s.heap t l).get? (zT2 s.heap t l).objs.size=some _:=Heap.get?_push_of_some _ (Heap.get?_push_of_some _ (Heap.get?_push_size _ rfl))
 have g2:(zT5 s.heap t l).get? (zT1 s.heap t).objs.size=some _:=Heap.get?_push_of_some _ (Heap.get?_push_of_some _ (Heap.get?_push_of_some _ (Heap.get?_push_size _ rfl)))
 have g1:(zT5 s.heap t l).get? s.heap.objs.size=some _:=Heap.get?_push_of_some _ (Heap.get?_push_of_some _ (Heap.get?_push_of_some _ (Heap.get?_push_of_some _ (Heap.get?_push_size _ rfl))))
 show _∧_
 rw [z2,z3,z4] at g5
 rw [z1,z2] at g3
 rw [z3] at g4
 rw [z1] at g2
 rw [z4]
 exact ⟨⟨_,g5,rfl⟩,h _ g5 g3 g4 ⟨_,g1,rfl,rfl⟩ ⟨_,g2,rfl,rfl⟩ fun c o x=>Heap.get?_push_of_some _ (Heap.get?_push_of_some _ (Heap.get?_push_of_some _ (Heap.get?_push_of_some _ (Heap.get?_push_of_some _ x))))⟩
end
def zDt (K:PySem.W.Frag) (a b:Addr):It:=
 ⟨fun i H=>∃(xs ys:List V) (x y:V),SqT K H a xs∧SqL K H b ys∧xs[i]?=some x∧ys[i]?=some y,
  fun i H v H'=>∃T x y,v=.ref T∧H T=none∧H'=upd H T (.tup [x,y])∧(∀xs,SqT K H a xs→xs[i]?=some x)∧∀ys,SqL K H b ys→ys[i]?=some y,
  fun i H=>∃xs ys:List V,SqT K H a xs∧SqL K H b ys∧xs.length≤i⟩
theorem z1x {P:Program} {w:World} {K:PySem.W.Frag} {elts:List Expr} {kk:Nat} {tpos:Pos} {a b z TI TO i1 i2:Addr} (D:ZipApart z TI TO i1 i2 a b):
  Turn P w K (.Tuple elts kk tpos) (zDt K a b) [z,TI,TO,i1,i2] z (fun i h=>IsZip h z TI TO .none∧IsPair h TI (.ref i1) (.ref i2)∧(∃x y,IsPair h TO x y)∧h.IsTupleIter i1 a i∧h.IsListIter i2 b i) where
 mem:=by simp
 obj:=fun i h st c hc=>by
  obtain ⟨hz,hTI,⟨x,y,hTO⟩,⟨o1,e1,_,d1⟩,⟨o2,e2,_,d2⟩⟩:=st
  simp only [List.mem_cons,List.not_mem_nil,or_false] at hc
  rcases hc with q|q|q|q|q
  ·rw [q];exact ⟨_,hz,fun v q=>nomatch q⟩
  ·rw [q];exact ⟨_,hTI,fun v q=>nomatch q⟩
  ·rw [q];exact ⟨_,hTO,fun v q=>nomatch q⟩
  ·rw [q];exact ⟨o1,e1,fun v q=>by rw [d1] at q;cases q⟩
  ·rw [q];exact ⟨o2,e2,fun v q=>by rw [d2] at q;cases q⟩
 keep:=fun i h h' st k=>by
  obtain ⟨hz,hTI,⟨x,y,hTO⟩,h1,h2⟩:=st
  exact ⟨k z (by simp) _ hz,k TI (by simp) _ hTI,⟨x,y,k TO (by simp) _ hTO⟩,h1.at fun o q=>k i1 (by simp) o q,h2.at fun o q=>k i2 (by simp) o q⟩
 item:=by
  intro X hP hw hK hc i pins s σ H E I hf st hg
  subst hP hw hK
  obtain ⟨hz,hTI,⟨x0,y0,hTO⟩,h1,h2⟩:=st
  obtain ⟨xs,ys,x,y,hqx,hqy,hx,hy⟩:=hg
  obtain ⟨its,rv,p,_⟩:=I.tuple hqx
  obtain ⟨its2,rv2,p2,_⟩:=I.list hqy
  obtain ⟨u,hu,ru⟩:=rv.get hx
  obtain ⟨u2,hu2,ru2⟩:=rv2.get hy
  have lz:z < s.heap.objs.size:=Heap.lt_size hz
  refine z8u D hz hTI hTO h1 h2 p p2.isList (x:=u) (y:=u2) (by simpa using hu) (by simpa using hu2) fun h' z' TO' h1' h2' hT hsz hk=>?_
  refine ⟨_,rfl,wpAny_letOwnedTupleGo_zip (s:={ s with heap:=h' }) z' fun h'' z'' sb=>?_⟩
  have hT2:h''.get? s.heap.objs.size=some { cls:=.type "tuple",data:=.seq #[u,u2] }:=(sb.2 _ (Nat.ne_of_gt lz)).trans hT
  have I1:Inv X pins σ (upd H s.heap.objs.size (.tup [x,y])) { s with heap:=h'' }:=I.turnedNew (t':=s.toks) (ch:=[z,TI,TO,i1,i2])
   (fun c o hb q=>(sb.2 c (fun q'=>hb (by simp [q']))).trans (hk c o (fun q'=>hb (by simp [q'])) (fun q'=>hb (by simp [q'])) (fun q'=>hb (by simp [q'])) (fun q'=>hb (by simp [q'])) q)) hf (Nat.le_refl _)
   (show zzb X.prog X.w _ h'' s.heap.objs.size (.tup [x,y]) from ⟨by show 2≤sizeLine;decide,[u,u2],.cons ru (.cons ru2 .nil),⟨_,hT2,rfl,_,rfl⟩⟩)
  refine ⟨.ref s.heap.objs.size,_,I1,rfl,⟨_,x,y,rfl,I.hok.fresh (Nat.le_refl _),rfl,fun l hl=>by rw [I.tuple_inj hl hqx];exact hx,fun l hl=>by rw [I.list_inj hl hqy];exact hy⟩,⟨z'',?_,⟨u,u2,?_⟩,?_,?_⟩,fun c hcm=>?_⟩
  ·exact (sb.2 _ D.TIz).trans (hk _ _ D.TIz D.TITO D.TIi1 D.TIi2 hTI)
  ·exact (sb.2 _ D.TOz).trans TO'
  ·exact h1'.at fun o q=>(sb.2 _ D.i1z).trans q
  ·exact h2'.at fun o q=>(sb.2 _ D.i2z).trans q
  ·have hlt:c < s.heap.objs.size:=by
    have e:=hcm
    simp only [List.mem_cons,List.not_mem_nil,or_false] at e
    rcases e with q|q|q|q|q
    ·rw [q];exact lz
    ·rw [q];exact Heap.lt_size hTI
    ·rw [q];exact Heap.lt_size hTO
    ·rw [q];obtain ⟨_,e1,_⟩:=h1;exact Heap.lt_size e1
    ·rw [q];obtain ⟨_,e2,_⟩:=h2;exact Heap.lt_size e2
   rw [zi (Nat.ne_of_lt hlt)]
   exact (hf c hcm).1
 done:=by
  intro X hP hw hK hc i pins s σ H E I hf st hg
  subst hP hw hK
  obtain ⟨hz,hTI,⟨x0,y0,hTO⟩,h1,h2⟩:=st
  obtain ⟨xs,ys,hqx,hqy,hend⟩:=hg
  obtain ⟨its,rv,p,_⟩:=I.tuple hqx
  obtain ⟨its2,rv2,p2,_⟩:=I.list hqy
  have l1:=rv.length
  exact zsp (I.ok.hd hc) D hz hTI hTO h1 h2 p p2.isList (by simp;omega) fun h' hk=>⟨rfl,I.turnedL (t':=s.toks) (ch:=[z,TI,TO,i1,i2]) (fun c o hb q=>
   hk c o (fun q'=>hb (by simp [q'])) (fun q'=>hb (by simp [q'])) (fun q'=>hb (by simp [q'])) (fun q'=>hb (by simp [q'])) q) hf⟩
 self:=fun A i s Q E st h=>wpAny_pyIter_zip st.1 h
def zuC (K:PySem.W.Frag) (ta:TA):TI:=fun σ H R=>ta σ H fun vs H1=>∃a b xs ys,vs=[.ref a,.ref b]∧SqT K H1 a xs∧SqL K H1 b ys∧R (zDt K a b) H1
theorem zxz {X:Cx} {e e2:Expr} {ta:TA} {p pos tpos:Pos} {elts:List Expr} {kk:Nat} (hg:Gl X "zip") (hm:X.mg "zip"=none) (ha:PA X [e,e2] ta)
  (hs:starEach [e,e2] X.env=(false,eval e X.env)::starEach [e2] X.env:=by rfl) (hpl:(backTo pos (starEach [e2] X.env)).any (·.1)=false:=by rfl):
  PI X (.Tuple elts kk tpos) (.Call (.Name "zip" p) [e,e2] [] pos) (zuC X.K ta):=by
 intro pins s σ H R I h
 refine Call_ (zRg I hg hm zQr (PyProof.Rows.callWith_type1 (thn (ha pos pins s σ H _ I h) fun us s1 ⟨vs,H1,I1,r1,q1⟩=>?_) hs hpl))
 obtain ⟨a,b,xs,ys,ex,hqx,hqy,q⟩:=q1
 subst ex
 obtain ⟨u1,u2,rfl,e1,e2⟩:=vals2 r1
 cases e1
 cases e2
 obtain ⟨its,rv,p1,_⟩:=I1.tuple hqx
 obtain ⟨its2,rv2,p2,_⟩:=I1.list hqy
 have la:a < s1.heap.objs.size:=by obtain ⟨_,e,_⟩:=p1;exact Heap.lt_size e
 refine zOx p1 p2.isList fun h' hz hTI hTO h1 h2 hk=>wpAny_pyIter_zip hz ?_
 refine ⟨s1.heap.objs.size + 4,[s1.heap.objs.size + 4,s1.heap.objs.size + 2,s1.heap.objs.size + 3,s1.heap.objs.size,s1.heap.objs.size + 1],_,_,H1,rfl,I1.kept (t':=s1.toks) hk,z1x (PySem.W.ktu_apart s1.heap.objs.size a b la p2.lt),⟨hz,hTI,⟨_,_,hTO⟩,h1,h2⟩,fun c hcm=>?_,q⟩
 have hle:s1.heap.objs.size≤c:=by
  simp only [List.mem_cons,List.not_mem_nil,or_false] at hcm
  rcases hcm with z|z|z|z|z
  ·rw [z];exact Nat.le_add_right _ _
  ·rw [z];exact Nat.le_add_right _ _
  ·rw [z];exact Nat.le_add_right _ _
  ·rw [z];exact Nat.le_refl _
  ·rw [z];exact Nat.le_add_right _ _
 exact I1.fpOk hle (I1.hok.fresh hle)
theorem zKz {K:PySem.W.Frag} {a b:Addr} {xs ys:List V} {g:TG} {tb:TS} {D:Ends} {σ:St} {H:Hp} (Pv:Nat→St→Hp→Prop) (hxy:xs.length≤ys.length) (h0:Pv 0 σ H) (hl:∀i σ H,i≤xs.length→Pv i σ H→SqT K H a xs∧SqL K H b ys)
  (hs:∀i x y T σ H,xs[i]?=some x→ys[i]?=some y→Pv i σ H→H T=none→g (.ref T) σ (upd H T (.tup [x,y])) fun σ2 H2=>tb { D with nx:=Pv (i + 1),ct:=Pv (i + 1),bk:=D.nx } σ2 H2) (hd:∀σ H,Pv xs.length σ H→D.nx σ H):
  ∃W:Nat→Nat→St→Hp→Prop,(∃m,W 0 m σ H)∧∀i m σ H,W i m σ H→
   ((zDt K a b).stop i H∧D.nx σ H)∨((zDt K a b).go i H∧∃N:St→Hp→Prop,(∀σ' H',N σ' H'→∃m',m' < m∧W (i + 1) m' σ' H')∧∀x H',(zDt K a b).yld i H x H'→g x σ H' fun σ2 H2=>tb { D with nx:=N,ct:=N,bk:=D.nx } σ2 H2):=by
 refine ⟨fun i m σ H=>m=xs.length - i∧i≤xs.length∧Pv i σ H,⟨xs.length,by simp,Nat.zero_le _,h0⟩,?_⟩
 rintro i m σ H ⟨rfl,hi,p⟩
 obtain ⟨q1,q2⟩:=hl i σ H hi p
 by_cases hlt:i < xs.length
 ·have hly:i < ys.length:=Nat.lt_of_lt_of_le hlt hxy
  refine .inr ⟨⟨xs,ys,xs[i],ys[i],q1,q2,by simp [hlt],by simp [hly]⟩,Pv (i + 1),fun σ' H' p'=>⟨xs.length - (i + 1),by omega,rfl,hlt,p'⟩,fun x H' y=>?_⟩
  obtain ⟨T,x,y,rfl,hT,rfl,hx,hy⟩:=y
  exact hs i x y T σ H (hx xs q1) (hy ys q2) p hT
 ·have e:i=xs.length:=by omega
  subst e
  exact .inl ⟨⟨xs,ys,q1,q2,Nat.le_refl _⟩,hd σ H p⟩
end L2
namespace L2
open PySem PySem.Spec PyProof.Rows
def KD (P:Program) (w:World) (K:PySem.W.Frag) (a:Addr) (kvs:List (Key×V)):Prop:=
 ∃(o:Obj) (es:Array DictEntry) (ep:Nat) (vs:List (Key×Value)),K.lookup a=some o∧o.ExactDict∧o.data=.dict es ep∧PySem.KeysOf (zsb P w) es∧PySem.Pairs (zsb P w) es.toList vs∧(vs.map (·.1)).Nodup∧KV kvs vs
def z4B (P:Program) (w:World) (K:PySem.W.Frag) (td ty:TE):TE:=fun σ H Q=>td σ H fun x H1=>ty σ H1 fun y H2=>∃a kvs k v,x=.ref a∧KD P w K a kvs∧y=kV k∧zLb kvs k=some v∧Q v H2
theorem zjo {X:Cx} {o i:Expr} {pos:Pos} {td ty:TE} (ho:PE X o td) (hi:PE X i ty) (hs:zaz i):PE X (.Subscript o i pos) (z4B X.prog X.w X.K td ty):=by
 intro pins s σ H Q I h
 refine zrv PySem.F.slot_dict_getitem.lookup hs (thn (ho pins s σ H _ I h) fun u s1 ⟨x,H1,I1,rx,q1⟩=>thn (hi pins s1 σ H1 _ I1 q1) fun iv s2 ⟨y,H2,I2,ry,a,kvs,k,v,ex,kd,ey,ev,q2⟩=>?_)
 subst ex
 subst ey
 cases rx
 obtain ⟨ob,es,ep,vs,e1,e2,e3,e4,e5,e6,e7⟩:=kd
 have dd:s2.heap.DictOf (zsb X.prog X.w) a vs:=⟨ob,es,ep,I2.kIn a ob e1,e2,e3,e4,e5,e6⟩
 obtain ⟨w',hw,rw'⟩:=zEe.some_of (v:=v) (o:=valueAt vs k) (by rw [←ev];exact e7.val k)
 exact ⟨dd.typeIs,wpAny_getItem_of (zDh ry) dd.mapOf hw ⟨v,H2,I2.tok _,rw',q2⟩⟩
def zfB (k:Key) (t:Tok):Value:=match k with
 |.inl i=>.int i t
 |.inr x=>.str x t
def ent (w:World) (x:Key×Tok×Addr):DictEntry:=⟨zEB w x.1,zfB x.1 x.2.1,.ref x.2.2⟩
theorem zsv (k:Key) (t:Tok):zKg k (zfB k t)=true:=by
 cases k with
 |inl i=>exact zIr i t
 |inr x=>exact zYr x t
theorem zdA {P:Program} {w:World} {K:PySem.W.Frag} {a:Addr} {l:List (Key×Tok×Addr)} {ep:Nat} (h:K.lookup a=some ⟨.type "dict",none,.dict (l.map (ent w)).toArray ep,#[]⟩) (nd:(l.map (·.1)).Nodup):KD P w K a (l.map fun x=>(x.1,V.ref x.2.2)):=by
 refine ⟨_,_,ep,l.map fun x=>(x.1,Value.ref x.2.2),h,⟨rfl,rfl,rfl⟩,rfl,?_,?_,?_,?_⟩
 ·intro e he
  have he:e∈l.map (ent w):=by simpa using he
  obtain ⟨x,_,rfl⟩:=List.mem_map.mp he
  exact ⟨x.1,zsv _ _,rfl⟩
 ·show PySem.Pairs (zsb P w) (l.map (ent w)) (l.map fun x=>(x.1,Value.ref x.2.2))
  clear h nd
  induction l with
  |nil=>exact .nil
  |cons x l ih=>exact .cons (zsv _ _) rfl ih
 ·rw [List.map_map]
  exact nd
 ·clear h nd
  induction l with
  |nil=>exact .nil
  |cons x l ih=>exact .cons ⟨rfl,rfl⟩ ih
def KTp (K:PySem.W.Frag) (a:Addr) (xs:List V):Prop:=∃(o:Obj) (its:Array Value) (n:Nat),K.lookup a=some o∧o.cls=.type "tuple"∧o.data=.seq its n∧its.size≤sizeLine∧Vals xs its.toList
theorem KTp.sq {K:PySem.W.Frag} {a:Addr} {xs:List V} (h:KTp K a xs) (H:Hp):SqT K H a xs:=.inr h
end L2
namespace Pv
open PySem PySem.Spec PyProof.Rows L2
def kinds:Nat→List Str
 |0=>["life","window"]
 |1=>[]
 |2=>["account","technique"]
 |3=>["device","account"]
 |4=>["device","month","total"]
 |5=>["device","month"]
 |6=>["account","account","number","number"]
 |7=>["account","account","choice","count"]
 |8=>["account","number","number","use"]
 |9=>["account","choice","count","use"]
 |10=>["account","account","number","number"]
 |11=>["offer"]
 |12=>["offer"]
 |13=>["month"]
 |14=>["device","count"]
 |15=>["number"]
 |16=>["account"]
 |17=>["account","choice"]
 |18=>["use"]
 |19=>["device"]
 |20=>[]
 |21=>["use","used"]
 |22=>[]
 |23=>["device","month"]
 |_=>[]
def bounds:List (Str×Int×Int):=[("life",1,12000),("window",0,12000),("account",1,32),("technique",0,9),("choice",-1,9),("device",1,16),("month",0,12000),("total",0,1000000000),("number",1,1000000000),("count",1,1000000000),("offer",1,1000000000),("use",1,1000000),("used",0,1000000000)]
structure zar (P:Program) (w:World) (K:PySem.W.Frag) (A:Adr):Prop where
 args:∀p:Nat,p≤23→∃kvs t,KD P w K A.zhd kvs∧zLb kvs (Sum.inl (p:Int))=some (.ref t)∧KTp K t ((kinds p).map V.str)
 rngs:∀x∈bounds,∃kvs t,KD P w K A.zBg kvs∧zLb kvs (Sum.inr x.1)=some (.ref t)∧KTp K t [.int x.2.1,.int x.2.2]
theorem zQA {P:Program} {w:World} {K:PySem.W.Frag} {A:Adr} {t0 t1 t2 t3 t4 t5 t6 t7 t8 t9 t10 t11 t12 t13 t14 t15 t16 t17 t18 t19 t20 t21 t22 t23 u0 u1 u2 u3 u4 u5 u6 u7 u8 u9 u10 u11 u12:Tok} {x0 x1 x2 x3 x4 x5 x6 x7 x8 x9 x10 x11 x12 x13 x14 x15 x16 x17 x18 x19 x20 x21 x22 x23 y0 y1 y2 y3 y4 y5 y6 y7 y8 y9 y10 y11 y12:Addr} {ep eq:Nat} {a0_0 a0_1 a2_0 a2_1 a3_0 a3_1 a4_0 a4_1 a4_2 a5_0 a5_1 a6_0 a6_1 a6_2 a6_3 a7_0 a7_1 a7_2 a7_3 a8_0 a8_1 a8_2 a8_3 a9_0 a9_1 a9_2 a9_3 a10_0 a10_1 a10_2 a10_3 a11_0 a12_0 a13_0 a14_0 a14_1 a15_0 a16_0 a17_0 a17_1 a18_0 a19_0 a21_0 a21_1 a23_0 a23_1 b0_0 b0_1 b1_0 b1_1 b2_0 b2_1 b3_0 b3_1 b4_0 b4_1 b5_0 b5_1 b6_0 b6_1 b7_0 b7_1 b8_0 b8_1 b9_0 b9_1 b10_0 b10_1 b11_0 b11_1 b12_0 b12_1:Tok} {n0 n1 n2 n3 n4 n5 n6 n7 n8 n9 n10 n11 n12 n13 n14 n15 n16 n17 n18 n19 n20 n21 n22 n23 m0 m1 m2 m3 m4 m5 m6 m7 m8 m9 m10 m11 m12:Nat}
  (hA:K.lookup A.zhd=some ⟨.type "dict",none,.dict #[⟨0,.int 0 t0,.ref x0⟩,⟨1,.int 1 t1,.ref x1⟩,⟨2,.int 2 t2,.ref x2⟩,⟨3,.int 3 t3,.ref x3⟩,⟨4,.int 4 t4,.ref x4⟩,⟨5,.int 5 t5,.ref x5⟩,⟨6,.int 6 t6,.ref x6⟩,⟨7,.int 7 t7,.ref x7⟩,⟨8,.int 8 t8,.ref x8⟩,⟨9,.int 9 t9,.ref x9⟩,⟨10,.int 10 t10,.ref x10⟩,⟨11,.int 11 t11,.ref x11⟩,⟨12,.int 12 t12,.ref x12⟩,⟨13,.int 13 t13,.ref x13⟩,⟨14,.int 14 t14,.ref x14⟩,⟨15,.int 15 t15,.ref x15⟩,⟨16,.int 16 t16,.ref x16⟩,⟨17,.int 17 t17,.ref x17⟩,⟨18,.int 18 t18,.ref x18⟩,⟨19,.int 19 t19,.ref x19⟩,⟨20,.int 20 t20,.ref x20⟩,⟨21,.int 21 t21,.ref x21⟩,⟨22,.int 22 t22,.ref x22⟩,⟨23,.int 23 t23,.ref x23⟩] ep,#[]⟩)
  (hR:K.lookup A.zBg=some ⟨.type "dict",none,.dict #[⟨PyData.keyHash w.params "life",.str "life" u0,.ref y0⟩,⟨PyData.keyHash w.params "window",.str "window" u1,.ref y1⟩,⟨PyData.keyHash w.params "account",.str "account" u2,.ref y2⟩,⟨PyData.keyHash w.params "technique",.str "technique" u3,.ref y3⟩,⟨PyData.keyHash w.params "choice",.str "choice" u4,.ref y4⟩,⟨PyData.keyHash w.params "device",.str "device" u5,.ref y5⟩,⟨PyData.keyHash w.params "month",.str "month" u6,.ref y6⟩,⟨PyData.keyHash w.params "total",.str "total" u7,.ref y7⟩,⟨PyData.keyHash w.params "number",.str "number" u8,.ref y8⟩,⟨PyData.keyHash w.params "count",.str "count" u9,.ref y9⟩,⟨PyData.keyHash w.params "offer",.str "offer" u10,.ref y10⟩,⟨PyData.keyHash w.params "use",.str "use" u11,.ref y11⟩,⟨PyData.keyHash w.params "used",.str "used" u12,.ref y12⟩] eq,#[]⟩)
  (hx0:K.lookup x0=some ⟨.type "tuple",none,.seq #[.str "life" a0_0,.str "window" a0_1] n0,#[]⟩)
  (hx1:K.lookup x1=some ⟨.type "tuple",none,.seq #[] n1,#[]⟩)
  (hx2:K.lookup x2=some ⟨.type "tuple",none,.seq #[.str "account" a2_0,.str "technique" a2_1] n2,#[]⟩)
  (hx3:K.lookup x3=some ⟨.type "tuple",none,.seq #[.str "device" a3_0,.str "account" a3_1] n3,#[]⟩)
  (hx4:K.lookup x4=some ⟨.type "tuple",none,.seq #[.str "device" a4_0,.str "month" a4_1,.str "total" a4_2] n4,#[]⟩)
  (hx5:K.lookup x5=some ⟨.type "tuple",none,.seq #[.str "device" a5_0,.str "month" a5_1] n5,#[]⟩)
  (hx6:K.lookup x6=some ⟨.type "tuple",none,.seq #[.str "account" a6_0,.str "account" a6_1,.str "number" a6_2,.str "number" a6_3] n6,#[]⟩)
  (hx7:K.lookup x7=some ⟨.type "tuple",none,.seq #[.str "account" a7_0,.str "account" a7_1,.str "choice" a7_2,.str "count" a7_3] n7,#[]⟩)
  (hx8:K.lookup x8=some ⟨.type "tuple",none,.seq #[.str "account" a8_0,.str "number" a8_1,.str "number" a8_2,.str "use" a8_3] n8,#[]⟩)
  (hx9:K.lookup x9=some ⟨.type "tuple",none,.seq #[.str "account" a9_0,.str "choice" a9_1,.str "count" a9_2,.str "use" a9_3] n9,#[]⟩)
  (hx10:K.lookup x10=some ⟨.type "tuple",none,.seq #[.str "account" a10_0,.str "account" a10_1,.str "number" a10_2,.str "number" a10_3] n10,#[]⟩)
  (hx11:K.lookup x11=some ⟨.type "tuple",none,.seq #[.str "offer" a11_0] n11,#[]⟩)
  (hx12:K.lookup x12=some ⟨.type "tuple",none,.seq #[.str "offer" a12_0] n12,#[]⟩)
  (hx13:K.lookup x13=some ⟨.type "tuple",none,.seq #[.str "month" a13_0] n13,#[]⟩)
  (hx14:K.lookup x14=some ⟨.type "tuple",none,.seq #[.str "device" a14_0,.str "count" a14_1] n14,#[]⟩)
  (hx15:K.lookup x15=some ⟨.type "tuple",none,.seq #[.str "number" a15_0] n15,#[]⟩)
  (hx16:K.lookup x16=some ⟨.type "tuple",none,.seq #[.str "account" a16_0] n16,#[]⟩)
  (hx17:K.lookup x17=some ⟨.type "tuple",none,.seq #[.str "account" a17_0,.str "choice" a17_1] n17,#[]⟩)
  (hx18:K.lookup x18=some ⟨.type "tuple",none,.seq #[.str "use" a18_0] n18,#[]⟩)
  (hx19:K.lookup x19=some ⟨.type "tuple",none,.seq #[.str "device" a19_0] n19,#[]⟩)
  (hx20:K.lookup x20=some ⟨.type "tuple",none,.seq #[] n20,#[]⟩)
  (hx21:K.lookup x21=some ⟨.type "tuple",none,.seq #[.str "use" a21_0,.str "used" a21_1] n21,#[]⟩)
  (hx22:K.lookup x22=some ⟨.type "tuple",none,.seq #[] n22,#[]⟩)
  (hx23:K.lookup x23=some ⟨.type "tuple",none,.seq #[.str "device" a23_0,.str "month" a23_1] n23,#[]⟩)
  (hy0:K.lookup y0=some ⟨.type "tuple",none,.seq #[.int (1) b0_0,.int (12000) b0_1] m0,#[]⟩)
  (hy1:K.lookup y1=some ⟨.type "tuple",none,.seq #[.int (0) b1_0,.int (12000) b1_1] m1,#[]⟩)
  (hy2:K.lookup y2=some ⟨.type "tuple",none,.seq #[.int (1) b2_0,.int (32) b2_1] m2,#[]⟩)
  (hy3:K.lookup y3=some ⟨.type "tuple",none,.seq #[.int (0) b3_0,.int (9) b3_1] m3,#[]⟩)
  (hy4:K.lookup y4=some ⟨.type "tuple",none,.seq #[.int (-1) b4_0,.int (9) b4_1] m4,#[]⟩)
  (hy5:K.lookup y5=some ⟨.type "tuple",none,.seq #[.int (1) b5_0,.int (16) b5_1] m5,#[]⟩)
  (hy6:K.lookup y6=some ⟨.type "tuple",none,.seq #[.int (0) b6_0,.int (12000) b6_1] m6,#[]⟩)
  (hy7:K.lookup y7=some ⟨.type "tuple",none,.seq #[.int (0) b7_0,.int (1000000000) b7_1] m7,#[]⟩)
  (hy8:K.lookup y8=some ⟨.type "tuple",none,.seq #[.int (1) b8_0,.int (1000000000) b8_1] m8,#[]⟩)
  (hy9:K.lookup y9=some ⟨.type "tuple",none,.seq #[.int (1) b9_0,.int (1000000000) b9_1] m9,#[]⟩)
  (hy10:K.lookup y10=some ⟨.type "tuple",none,.seq #[.int (1) b10_0,.int (1000000000) b10_1] m10,#[]⟩)
  (hy11:K.lookup y11=some ⟨.type "tuple",none,.seq #[.int (1) b11_0,.int (1000000) b11_1] m11,#[]⟩)
  (hy12:K.lookup y12=some ⟨.type "tuple",none,.seq #[.int (0) b12_0,.int (1000000000) b12_1] m12,#[]⟩):zar P w K A:=by
 have kA:KD P w K A.zhd (([(Sum.inl 0,t0,x0),(Sum.inl 1,t1,x1),(Sum.inl 2,t2,x2),(Sum.inl 3,t3,x3),(Sum.inl 4,t4,x4),(Sum.inl 5,t5,x5),(Sum.inl 6,t6,x6),(Sum.inl 7,t7,x7),(Sum.inl 8,t8,x8),(Sum.inl 9,t9,x9),(Sum.inl 10,t10,x10),(Sum.inl 11,t11,x11),(Sum.inl 12,t12,x12),(Sum.inl 13,t13,x13),(Sum.inl 14,t14,x14),(Sum.inl 15,t15,x15),(Sum.inl 16,t16,x16),(Sum.inl 17,t17,x17),(Sum.inl 18,t18,x18),(Sum.inl 19,t19,x19),(Sum.inl 20,t20,x20),(Sum.inl 21,t21,x21),(Sum.inl 22,t22,x22),(Sum.inl 23,t23,x23)]:List (Key×Tok×Addr)).map fun x=>(x.1,V.ref x.2.2)):=zdA hA (by show ([Sum.inl 0,Sum.inl 1,Sum.inl 2,Sum.inl 3,Sum.inl 4,Sum.inl 5,Sum.inl 6,Sum.inl 7,Sum.inl 8,Sum.inl 9,Sum.inl 10,Sum.inl 11,Sum.inl 12,Sum.inl 13,Sum.inl 14,Sum.inl 15,Sum.inl 16,Sum.inl 17,Sum.inl 18,Sum.inl 19,Sum.inl 20,Sum.inl 21,Sum.inl 22,Sum.inl 23]:List Key).Nodup;decide +kernel)
 have kR:KD P w K A.zBg (([(Sum.inr "life",u0,y0),(Sum.inr "window",u1,y1),(Sum.inr "account",u2,y2),(Sum.inr "technique",u3,y3),(Sum.inr "choice",u4,y4),(Sum.inr "device",u5,y5),(Sum.inr "month",u6,y6),(Sum.inr "total",u7,y7),(Sum.inr "number",u8,y8),(Sum.inr "count",u9,y9),(Sum.inr "offer",u10,y10),(Sum.inr "use",u11,y11),(Sum.inr "used",u12,y12)]:List (Key×Tok×Addr)).map fun x=>(x.1,V.ref x.2.2)):=zdA hR (by show ([Sum.inr "life",Sum.inr "window",Sum.inr "account",Sum.inr "technique",Sum.inr "choice",Sum.inr "device",Sum.inr "month",Sum.inr "total",Sum.inr "number",Sum.inr "count",Sum.inr "offer",Sum.inr "use",Sum.inr "used"]:List Key).Nodup;decide +kernel)
 refine ⟨fun p hp=>?_,fun x hx=>?_⟩
 ·match p,hp with
  |0,_=>exact ⟨_,x0,kA,rfl,⟨_,_,n0,hx0,rfl,rfl,(by show 2≤sizeLine;decide),(.cons ⟨_,rfl⟩ (.cons ⟨_,rfl⟩ .nil))⟩⟩
  |1,_=>exact ⟨_,x1,kA,rfl,⟨_,_,n1,hx1,rfl,rfl,(by show 0≤sizeLine;decide),.nil⟩⟩
  |2,_=>exact ⟨_,x2,kA,rfl,⟨_,_,n2,hx2,rfl,rfl,(by show 2≤sizeLine;decide),(.cons ⟨_,rfl⟩ (.cons ⟨_,rfl⟩ .nil))⟩⟩
  |3,_=>exact ⟨_,x3,kA,rfl,⟨_,_,n3,hx3,rfl,rfl,(by show 2≤sizeLine;decide),(.cons ⟨_,rfl⟩ (.cons ⟨_,rfl⟩ .nil))⟩⟩
  |4,_=>exact ⟨_,x4,kA,rfl,⟨_,_,n4,hx4,rfl,rfl,(by show 3≤sizeLine;decide),(.cons ⟨_,rfl⟩ (.cons ⟨_,rfl⟩ (.cons ⟨_,rfl⟩ .nil)))⟩⟩
  |5,_=>exact ⟨_,x5,kA,rfl,⟨_,_,n5,hx5,rfl,rfl,(by show 2≤sizeLine;decide),(.cons ⟨_,rfl⟩ (.cons ⟨_,rfl⟩ .nil))⟩⟩
  |6,_=>exact ⟨_,x6,kA,rfl,⟨_,_,n6,hx6,rfl,rfl,(by show 4≤sizeLine;decide),(.cons ⟨_,rfl⟩ (.cons ⟨_,rfl⟩ (.cons ⟨_,rfl⟩ (.cons ⟨_,rfl⟩ .nil))))⟩⟩
  |7,_=>exact ⟨_,x7,kA,rfl,⟨_,_,n7,hx7,rfl,rfl,(by show 4≤sizeLine;decide),(.cons ⟨_,rfl⟩ (.cons ⟨_,rfl⟩ (.cons ⟨_,rfl⟩ (.cons ⟨_,rfl⟩ .nil))))⟩⟩
  |8,_=>exact ⟨_,x8,kA,rfl,⟨_,_,n8,hx8,rfl,rfl,(by show 4≤sizeLine;decide),(.cons ⟨_,rfl⟩ (.cons ⟨_,rfl⟩ (.cons ⟨_,rfl⟩ (.cons ⟨_,rfl⟩ .nil))))⟩⟩
  |9,_=>exact ⟨_,x9,kA,rfl,⟨_,_,n9,hx9,rfl,rfl,(by show 4≤sizeLine;decide),(.cons ⟨_,rfl⟩ (.cons ⟨_,rfl⟩ (.cons ⟨_,rfl⟩ (.cons ⟨_,rfl⟩ .nil))))⟩⟩
  |10,_=>exact ⟨_,x10,kA,rfl,⟨_,_,n10,hx10,rfl,rfl,(by show 4≤sizeLine;decide),(.cons ⟨_,rfl⟩ (.cons ⟨_,rfl⟩ (.cons ⟨_,rfl⟩ (.cons ⟨_,rfl⟩ .nil))))⟩⟩
  |11,_=>exact ⟨_,x11,kA,rfl,⟨_,_,n11,hx11,rfl,rfl,(by show 1≤sizeLine;decide),(.cons ⟨_,rfl⟩ .nil)⟩⟩
  |12,_=>exact ⟨_,x12,kA,rfl,⟨_,_,n12,hx12,rfl,rfl,(by show 1≤sizeLine;decide),(.cons ⟨_,rfl⟩ .nil)⟩⟩
  |13,_=>exact ⟨_,x13,kA,rfl,⟨_,_,n13,hx13,rfl,rfl,(by show 1≤sizeLine;decide),(.cons ⟨_,rfl⟩ .nil)⟩⟩
  |14,_=>exact ⟨_,x14,kA,rfl,⟨_,_,n14,hx14,rfl,rfl,(by show 2≤sizeLine;decide),(.cons ⟨_,rfl⟩ (.cons ⟨_,rfl⟩ .nil))⟩⟩
  |15,_=>exact ⟨_,x15,kA,rfl,⟨_,_,n15,hx15,rfl,rfl,(by show 1≤sizeLine;decide),(.cons ⟨_,rfl⟩ .nil)⟩⟩
  |16,_=>exact ⟨_,x16,kA,rfl,⟨_,_,n16,hx16,rfl,rfl,(by show 1≤sizeLine;decide),(.cons ⟨_,rfl⟩ .nil)⟩⟩
  |17,_=>exact ⟨_,x17,kA,rfl,⟨_,_,n17,hx17,rfl,rfl,(by show 2≤sizeLine;decide),(.cons ⟨_,rfl⟩ (.cons ⟨_,rfl⟩ .nil))⟩⟩
  |18,_=>exact ⟨_,x18,kA,rfl,⟨_,_,n18,hx18,rfl,rfl,(by show 1≤sizeLine;decide),(.cons ⟨_,rfl⟩ .nil)⟩⟩
  |19,_=>exact ⟨_,x19,kA,rfl,⟨_,_,n19,hx19,rfl,rfl,(by show 1≤sizeLine;decide),(.cons ⟨_,rfl⟩ .nil)⟩⟩
  |20,_=>exact ⟨_,x20,kA,rfl,⟨_,_,n20,hx20,rfl,rfl,(by show 0≤sizeLine;decide),.nil⟩⟩
  |21,_=>exact ⟨_,x21,kA,rfl,⟨_,_,n21,hx21,rfl,rfl,(by show 2≤sizeLine;decide),(.cons ⟨_,rfl⟩ (.cons ⟨_,rfl⟩ .nil))⟩⟩
  |22,_=>exact ⟨_,x22,kA,rfl,⟨_,_,n22,hx22,rfl,rfl,(by show 0≤sizeLine;decide),.nil⟩⟩
  |23,_=>exact ⟨_,x23,kA,rfl,⟨_,_,n23,hx23,rfl,rfl,(by show 2≤sizeLine;decide),(.cons ⟨_,rfl⟩ (.cons ⟨_,rfl⟩ .nil))⟩⟩
  |n + 24,h=>exact absurd h (by omega)
 ·unfold bounds at hx
  simp only [List.mem_cons,List.not_mem_nil,or_false] at hx
  rcases hx with rfl|rfl|rfl|rfl|rfl|rfl|rfl|rfl|rfl|rfl|rfl|rfl|rfl
  ·exact ⟨_,y0,kR,(by rfl),⟨_,_,m0,hy0,rfl,rfl,(by show 2≤sizeLine;decide),(.cons ⟨_,rfl⟩ (.cons ⟨_,rfl⟩ .nil))⟩⟩
  ·exact ⟨_,y1,kR,(by rfl),⟨_,_,m1,hy1,rfl,rfl,(by show 2≤sizeLine;decide),(.cons ⟨_,rfl⟩ (.cons ⟨_,rfl⟩ .nil))⟩⟩
  ·exact ⟨_,y2,kR,(by rfl),⟨_,_,m2,hy2,rfl,rfl,(by show 2≤sizeLine;decide),(.cons ⟨_,rfl⟩ (.cons ⟨_,rfl⟩ .nil))⟩⟩
  ·exact ⟨_,y3,kR,(by rfl),⟨_,_,m3,hy3,rfl,rfl,(by show 2≤sizeLine;decide),(.cons ⟨_,rfl⟩ (.cons ⟨_,rfl⟩ .nil))⟩⟩
  ·exact ⟨_,y4,kR,(by rfl),⟨_,_,m4,hy4,rfl,rfl,(by show 2≤sizeLine;decide),(.cons ⟨_,rfl⟩ (.cons ⟨_,rfl⟩ .nil))⟩⟩
  ·exact ⟨_,y5,kR,(by rfl),⟨_,_,m5,hy5,rfl,rfl,(by show 2≤sizeLine;decide),(.cons ⟨_,rfl⟩ (.cons ⟨_,rfl⟩ .nil))⟩⟩
  ·exact ⟨_,y6,kR,(by rfl),⟨_,_,m6,hy6,rfl,rfl,(by show 2≤sizeLine;decide),(.cons ⟨_,rfl⟩ (.cons ⟨_,rfl⟩ .nil))⟩⟩
  ·exact ⟨_,y7,kR,(by rfl),⟨_,_,m7,hy7,rfl,rfl,(by show 2≤sizeLine;decide),(.cons ⟨_,rfl⟩ (.cons ⟨_,rfl⟩ .nil))⟩⟩
  ·exact ⟨_,y8,kR,(by rfl),⟨_,_,m8,hy8,rfl,rfl,(by show 2≤sizeLine;decide),(.cons ⟨_,rfl⟩ (.cons ⟨_,rfl⟩ .nil))⟩⟩
  ·exact ⟨_,y9,kR,(by rfl),⟨_,_,m9,hy9,rfl,rfl,(by show 2≤sizeLine;decide),(.cons ⟨_,rfl⟩ (.cons ⟨_,rfl⟩ .nil))⟩⟩
  ·exact ⟨_,y10,kR,(by rfl),⟨_,_,m10,hy10,rfl,rfl,(by show 2≤sizeLine;decide),(.cons ⟨_,rfl⟩ (.cons ⟨_,rfl⟩ .nil))⟩⟩
  ·exact ⟨_,y11,kR,(by rfl),⟨_,_,m11,hy11,rfl,rfl,(by show 2≤sizeLine;decide),(.cons ⟨_,rfl⟩ (.cons ⟨_,rfl⟩ .nil))⟩⟩
  ·exact ⟨_,y12,kR,(by rfl),⟨_,_,m12,hy12,rfl,rfl,(by show 2≤sizeLine;decide),(.cons ⟨_,rfl⟩ (.cons ⟨_,rfl⟩ .nil))⟩⟩
end Pv
namespace Pv
open PySem PySem.Spec PyProof.Rows L2
open Vbemak (Call)
def bnd (k:Str):Int×Int:=((bounds.find? fun x=>decide (x.1=k)).map (·.2)).getD (0,0)
def inB (k:Str) (z:Int):Bool:=decide ((bnd k).1≤z)&&decide (z≤(bnd k).2)
def zz (ks:List Str) (zs:List Int):Bool:=(ks.zip zs).all fun x=>inB x.1 x.2
theorem zBz:∀p:Nat,p < 24→∀k∈kinds p,(k,(bnd k).1,(bnd k).2)∈bounds:=by decide +kernel
theorem z5o:∀p:Nat,p < 24→VM.zyf (p:Int)=(kinds p).length:=by decide +kernel
section
variable {P:Program} {w:World} {K:PySem.W.Frag} {mg:Str→Option Value} {base:Heap} {A:Adr}
def zyn (A:Adr):Sp:=fun vs H Q _=>∃(x:Int) (p:Nat),vs=[.int x]∧x=p∧p≤23∧Q (.int ((kinds p).length:Nat)) H
theorem zDn (T:Txt K mg A) (DC:zar P w K A):zG P w K mg base CX0 1 A.zpi A.z7h ["place"] (zyn A):=by
 have nN:=zuh.nd
 refine T.zkc.F.ok zuh (fun vs H Q E h=>?_) (fun cdv B outer s H vs Q E hr h=>?_)
 ·obtain ⟨x,p,rfl,_⟩:=h
  rfl
 ·obtain ⟨x,p,rfl,rfl,hp,k⟩:=h
  have hu:=zM hr
  refine ⟨_,(ze (zh (z5 zxb (by rfl) T.zAd PySem.boot_len (za (zjo (zp (v:=.ref A.zhd) rfl T.zvj rfl) (pv 0) (fun _ _=>rfl)) zb)))),?_⟩
  obtain ⟨kvs,t,h1,h2,h3⟩:=DC.args p hp
  refine ⟨_,rfl,A.zhd,kvs,Sum.inl (p:Int),.ref t,rfl,h1,rfl,h2,t,_,rfl,.inr (h3.sq _),?_⟩
  rw [List.length_map]
  exact k
def zPp (A:Adr):Sp:=fun vs H Q _=>∃(x:Int) (p:Nat) (l:Addr) (zs:List Int),vs=[.int x,.ref l]∧x=p∧p≤23∧H l=some (.lst (zs.map V.int))∧zs.length=(kinds p).length∧∀H':Hp,zB H H'→Q (.bl (zz (kinds p) zs)) H'
theorem z8o (T:Txt K mg A) (DC:zar P w K A):zG P w K mg base CX0 1 A.zVj A.z9j ["place","arguments"] (zPp A):=by
 have nN:=z4i.nd
 refine T.zMc.F.ok z4i (fun vs H Q E h=>?_) (fun cdv B outer s H vs Q E hr h=>?_)
 ·obtain ⟨x,p,l,zs,rfl,_⟩:=h
  rfl
 ·obtain ⟨x,p,l,zs,rfl,rfl,hp,hl,hz,k⟩:=h
  have hu:=zM hr
  refine ⟨_,(zd (zMd PassesOwn.never rfl (zxz rfl T.zKs (za (zjo (zp (v:=.ref A.zhd) rfl T.zvj rfl) (pv 0) (fun _ _=>rfl)) (za (pv 1) zb))) (zQq (i:=2) (j:=3) rfl nN rfl rfl (Or.inl rfl) (Or.inl rfl)) (zd (zK (i:=4) nN rfl (Or.inl rfl) (zjo (zp (v:=.ref A.zBg) rfl T.zLt rfl) (pv 2) (fun _ _=>rfl)))
   (ze (zI (PW.pt (zBh (zC zgn (pv 3) (zS z7j (pv 4) zm (fun _ _=>rfl)) (zE _)) (z3f (zC zGh (pv 3) (zS z7j (pv 4) zm (fun _ _=>rfl)) (zE _))))) (ze (zh zYk)) zx))))
   (ze (zh zYk))),?_⟩
  obtain ⟨kvs,t,h1,h2,h3⟩:=DC.args p hp
  refine ⟨_,rfl,A.zhd,kvs,Sum.inl (p:Int),.ref t,rfl,h1,rfl,h2,_,rfl,t,l,_,_,rfl,h3.sq _,SqL.of hl,zKz (K:=K) (a:=t) (b:=l) (xs:=(kinds p).map V.str) (ys:=zs.map V.int)
   (fun i σ H'=>∃v2 v3 v4:Option V,σ=[some (.int p),some (.ref l),v2,v3,v4]∧zB H H'∧((((kinds p).zip zs).take i).all fun x=>inB x.1 x.2)=true) (by rw [List.length_map,List.length_map,hz];exact Nat.le_refl _)
   ⟨none,none,none,rfl,zB.refl _,rfl⟩ (fun i σ H' _ ⟨_,_,_,_,s1,_⟩=>⟨h3.sq _,SqL.of (s1 _ _ hl)⟩) ?_ ?_⟩
  ·rintro i x y g σ H1 hx hy ⟨v2,v3,v4,rfl,s1,ok⟩ hg
   obtain ⟨kd,hk,rfl⟩:=zCd hx
   obtain ⟨z,hzi,rfl⟩:=zCd hy
   have s2:=zq (o:=.tup [.str kd,.int z]) hg
   have hzip:((kinds p).zip zs)[i]?=some (kd,z):=by
    rw [List.getElem?_zip_eq_some]
    exact ⟨hk,hzi⟩
   obtain ⟨kv2,t2,g1,g2,g3⟩:=DC.rngs _ (zBz p (by omega) kd (List.mem_of_getElem? hk))
   refine ⟨g,_,rfl,SqT.of zc,rfl,_,_,rfl,_,_,rfl,rfl,?_⟩
   refine ⟨_,rfl,A.zBg,kv2,Sum.inr kd,.ref t2,rfl,g1,rfl,g2,?_⟩
   refine ⟨_,rfl,_,rfl,t2,_,0,_,rfl,rfl,g3.sq _,at_of (j:=0) rfl rfl,_,_,rfl,rfl,_,rfl,?_⟩
   refine or3 (c2:=decide (z > (bnd kd).2)) (fun h=>⟨_,rfl,_,rfl,t2,_,1,_,rfl,rfl,g3.sq _,at_of (j:=1) rfl rfl,_,_,rfl,rfl,_,rfl,h⟩) (fun c=>?_) fun c=>?_
   ·have e:zz (kinds p) zs=false:=by
     rw [Bool.or_eq_true,decide_eq_true_eq,decide_eq_true_eq] at c
     unfold zz
     rw [List.all_eq_false]
     refine ⟨(kd,z),List.mem_of_getElem? hzip,?_⟩
     unfold inB
     rw [Bool.and_eq_true,decide_eq_true_eq,decide_eq_true_eq]
     dsimp only at c ⊢
     omega
    rw [e] at k
    exact k _ (s1.trans s2)
   ·refine ⟨_,_,_,rfl,s1.trans s2,?_⟩
    rw [Bool.or_eq_false_iff,decide_eq_false_iff_not,decide_eq_false_iff_not] at c
    rw [take_snoc hzip,List.all_append,ok,Bool.true_and]
    show (inB kd z&&true)=true
    rw [Bool.and_true]
    unfold inB
    rw [Bool.and_eq_true,decide_eq_true_eq,decide_eq_true_eq]
    dsimp only at c ⊢
    omega
  ·rintro σ H1 ⟨v2,v3,v4,rfl,s1,ok⟩
   have el:((kinds p).map V.str).length=((kinds p).zip zs).length:=by rw [List.length_map,List.length_zip,hz,Nat.min_self]
   rw [el,List.take_length] at ok
   have e:zz (kinds p) zs=true:=ok
   rw [e] at k
   exact k _ s1
end
end Pv
namespace Pv
open PySem PySem.Spec PyProof.Rows L2
open Vbemak (Call)
theorem zpz:bnd "life"=(1,12000):=by decide +kernel
theorem zxw:bnd "window"=(0,12000):=by decide +kernel
theorem zQc:bnd "account"=(1,32):=by decide +kernel
theorem zts:bnd "technique"=(0,9):=by decide +kernel
theorem zLk:bnd "choice"=(-1,9):=by decide +kernel
theorem z3e:bnd "device"=(1,16):=by decide +kernel
theorem zPi:bnd "month"=(0,12000):=by decide +kernel
theorem zkx:bnd "total"=(0,1000000000):=by decide +kernel
theorem zHh:bnd "number"=(1,1000000000):=by decide +kernel
theorem zwm:bnd "count"=(1,1000000000):=by decide +kernel
theorem zHr:bnd "offer"=(1,1000000000):=by decide +kernel
theorem z8m:bnd "use"=(1,1000000):=by decide +kernel
theorem zkz:bnd "used"=(0,1000000000):=by decide +kernel
def zDe:Nat→List Int→Call
 |0,[z0,z1]=>.opens z0.toNat z1.toNat
 |1,[]=>.account
 |2,[z0,z1]=>.device z0.toNat z1.toNat
 |3,[z0,z1]=>.pass z0.toNat z1.toNat
 |4,[z0,z1,z2]=>.meter z0.toNat z1.toNat z2
 |5,[z0,z1]=>.issue z0.toNat z1.toNat
 |6,[z0,z1,z2,z3]=>.move z0.toNat z1.toNat z2.toNat z3.toNat
 |7,[z0,z1,z2,z3]=>.moveSome z0.toNat z1.toNat (Vbemak.techArg z2) z3.toNat
 |8,[z0,z1,z2,z3]=>.cancel z0.toNat z1.toNat z2.toNat z3.toNat
 |9,[z0,z1,z2,z3]=>.cancelSome z0.toNat (Vbemak.techArg z1) z2.toNat z3.toNat
 |10,[z0,z1,z2,z3]=>.offer z0.toNat z1.toNat z2.toNat z3.toNat
 |11,[z0]=>.accept z0.toNat
 |12,[z0]=>.decline z0.toNat
 |13,[z0]=>.tick z0.toNat
 |14,[z0,z1]=>.withdraw z0.toNat z1.toNat
 |15,[z0]=>.where_ z0.toNat
 |16,[z0]=>.holding z0.toNat
 |17,[z0,z1]=>.tally z0.toNat (Vbemak.techArg z1)
 |18,[z0]=>.statement z0.toNat
 |19,[z0]=>.info z0.toNat
 |20,[]=>.sums
 |21,[z0,z1]=>.disclose z0.toNat z1.toNat
 |22,[]=>.offers
 |23,[z0,z1]=>.total z0.toNat z1.toNat
 |_,_=>.sums
theorem ifc {a b:Bool} {α:Type} {x y:α} (h:a=true↔b=true):(if a=true then x else y)=if b=true then x else y:=by
 rw [Bool.eq_iff_iff.mpr h]
theorem len0 {l:List Int} (h:l.length=0):l=[]:=List.length_eq_zero_iff.mp h
theorem zxc {l:List Int} (h:l.length=1):∃a,l=[a]:=List.length_eq_one_iff.mp h
theorem z7b {l:List Int} (h:l.length=2):∃a b,l=[a,b]:=by
 match l,h with
 |[a,b],_=>exact ⟨a,b,rfl⟩
theorem z0s {l:List Int} (h:l.length=3):∃a b c,l=[a,b,c]:=by
 match l,h with
 |[a,b,c],_=>exact ⟨a,b,c,rfl⟩
theorem zOd {l:List Int} (h:l.length=4):∃a b c d,l=[a,b,c,d]:=by
 match l,h with
 |[a,b,c,d],_=>exact ⟨a,b,c,d,rfl⟩
theorem zYz {z0 z1:Int}:zz (kinds 0) [z0,z1]=true↔((1:Int)≤z0∧z0≤12000)∧((0:Int)≤z1∧z1≤12000):=by
 simp only [zz,kinds,List.zip_cons_cons,List.zip_nil_right,List.all_cons,List.all_nil,inB,zpz,zxw,Bool.and_true,Bool.and_eq_true,decide_eq_true_eq]
theorem zAC {z0 z1:Int}:Vbemak.decode [[0,z0,z1]]=if zz (kinds 0) [z0,z1]=true then some (Call.opens z0.toNat z1.toNat) else none:=by
 show Vbemak.guard _ _=_
 unfold Vbemak.guard
 refine ifc ?_
 rw [zYz]
 simp only [Vbemak.isHand,Vbemak.isDevice,Vbemak.isMonth,Vbemak.isNumber,Vbemak.isUse,Vbemak.isTech,Vbemak.inside,Bool.and_eq_true,decide_eq_true_eq]
 try simp only [Vbemak.ACCOUNTS,Vbemak.DEVICES,Vbemak.MONTHS,Vbemak.NUMBERS,Vbemak.TECHS]
 all_goals omega
theorem zsC:Vbemak.decode [[1]]=if zz (kinds 1) []=true then some Call.account else none:=rfl
theorem zaw {z0 z1:Int}:zz (kinds 2) [z0,z1]=true↔((1:Int)≤z0∧z0≤32)∧((0:Int)≤z1∧z1≤9):=by
 simp only [zz,kinds,List.zip_cons_cons,List.zip_nil_right,List.all_cons,List.all_nil,inB,zQc,zts,Bool.and_true,Bool.and_eq_true,decide_eq_true_eq]
theorem zqC {z0 z1:Int}:Vbemak.decode [[2,z0,z1]]=if zz (kinds 2) [z0,z1]=true then some (Call.device z0.toNat z1.toNat) else none:=by
 show Vbemak.guard _ _=_
 unfold Vbemak.guard
 refine ifc ?_
 rw [zaw]
 simp only [Vbemak.isHand,Vbemak.isDevice,Vbemak.isMonth,Vbemak.isNumber,Vbemak.isUse,Vbemak.isTech,Vbemak.inside,Bool.and_eq_true,decide_eq_true_eq]
 try simp only [Vbemak.ACCOUNTS,Vbemak.DEVICES,Vbemak.MONTHS,Vbemak.NUMBERS,Vbemak.TECHS]
 all_goals omega
theorem z4z {z0 z1:Int}:zz (kinds 3) [z0,z1]=true↔((1:Int)≤z0∧z0≤16)∧((1:Int)≤z1∧z1≤32):=by
 simp only [zz,kinds,List.zip_cons_cons,List.zip_nil_right,List.all_cons,List.all_nil,inB,z3e,zQc,Bool.and_true,Bool.and_eq_true,decide_eq_true_eq]
theorem zFC {z0 z1:Int}:Vbemak.decode [[3,z0,z1]]=if zz (kinds 3) [z0,z1]=true then some (Call.pass z0.toNat z1.toNat) else none:=by
 show Vbemak.guard _ _=_
 unfold Vbemak.guard
 refine ifc ?_
 rw [z4z]
 simp only [Vbemak.isHand,Vbemak.isDevice,Vbemak.isMonth,Vbemak.isNumber,Vbemak.isUse,Vbemak.isTech,Vbemak.inside,Bool.and_eq_true,decide_eq_true_eq]
 try simp only [Vbemak.ACCOUNTS,Vbemak.DEVICES,Vbemak.MONTHS,Vbemak.NUMBERS,Vbemak.TECHS]
 all_goals omega
theorem znw {z0 z1 z2:Int}:zz (kinds 4) [z0,z1,z2]=true↔((1:Int)≤z0∧z0≤16)∧((0:Int)≤z1∧z1≤12000)∧((0:Int)≤z2∧z2≤1000000000):=by
 simp only [zz,kinds,List.zip_cons_cons,List.zip_nil_right,List.all_cons,List.all_nil,inB,z3e,zPi,zkx,Bool.and_true,Bool.and_eq_true,decide_eq_true_eq]
theorem zCC {z0 z1 z2:Int}:Vbemak.decode [[4,z0,z1,z2]]=if zz (kinds 4) [z0,z1,z2]=true then some (Call.meter z0.toNat z1.toNat z2) else none:=by
 show Vbemak.guard _ _=_
 unfold Vbemak.guard
 refine ifc ?_
 rw [znw]
 simp only [Vbemak.isHand,Vbemak.isDevice,Vbemak.isMonth,Vbemak.isNumber,Vbemak.isUse,Vbemak.isTech,Vbemak.inside,Bool.and_eq_true,decide_eq_true_eq]
 try simp only [Vbemak.ACCOUNTS,Vbemak.DEVICES,Vbemak.MONTHS,Vbemak.NUMBERS,Vbemak.TECHS]
 all_goals omega
theorem z2v {z0 z1:Int}:zz (kinds 5) [z0,z1]=true↔((1:Int)≤z0∧z0≤16)∧((0:Int)≤z1∧z1≤12000):=by
 simp only [zz,kinds,List.zip_cons_cons,List.zip_nil_right,List.all_cons,List.all_nil,inB,z3e,zPi,Bool.and_true,Bool.and_eq_true,decide_eq_true_eq]
theorem zNC {z0 z1:Int}:Vbemak.decode [[5,z0,z1]]=if zz (kinds 5) [z0,z1]=true then some (Call.issue z0.toNat z1.toNat) else none:=by
 show Vbemak.guard _ _=_
 unfold Vbemak.guard
 refine ifc ?_
 rw [z2v]
 simp only [Vbemak.isHand,Vbemak.isDevice,Vbemak.isMonth,Vbemak.isNumber,Vbemak.isUse,Vbemak.isTech,Vbemak.inside,Bool.and_eq_true,decide_eq_true_eq]
 try simp only [Vbemak.ACCOUNTS,Vbemak.DEVICES,Vbemak.MONTHS,Vbemak.NUMBERS,Vbemak.TECHS]
 all_goals omega
theorem zow {z0 z1 z2 z3:Int}:zz (kinds 6) [z0,z1,z2,z3]=true↔((1:Int)≤z0∧z0≤32)∧((1:Int)≤z1∧z1≤32)∧((1:Int)≤z2∧z2≤1000000000)∧((1:Int)≤z3∧z3≤1000000000):=by
 simp only [zz,kinds,List.zip_cons_cons,List.zip_nil_right,List.all_cons,List.all_nil,inB,zQc,zHh,Bool.and_true,Bool.and_eq_true,decide_eq_true_eq]
theorem zBC {z0 z1 z2 z3:Int}:Vbemak.decode [[6,z0,z1,z2,z3]]=if zz (kinds 6) [z0,z1,z2,z3]=true then some (Call.move z0.toNat z1.toNat z2.toNat z3.toNat) else none:=by
 show Vbemak.guard _ _=_
 unfold Vbemak.guard
 refine ifc ?_
 rw [zow]
 simp only [Vbemak.isHand,Vbemak.isDevice,Vbemak.isMonth,Vbemak.isNumber,Vbemak.isUse,Vbemak.isTech,Vbemak.inside,Bool.and_eq_true,decide_eq_true_eq]
 try simp only [Vbemak.ACCOUNTS,Vbemak.DEVICES,Vbemak.MONTHS,Vbemak.NUMBERS,Vbemak.TECHS]
 all_goals omega
theorem zZz {z0 z1 z2 z3:Int}:zz (kinds 7) [z0,z1,z2,z3]=true↔((1:Int)≤z0∧z0≤32)∧((1:Int)≤z1∧z1≤32)∧((-1:Int)≤z2∧z2≤9)∧((1:Int)≤z3∧z3≤1000000000):=by
 simp only [zz,kinds,List.zip_cons_cons,List.zip_nil_right,List.all_cons,List.all_nil,inB,zQc,zLk,zwm,Bool.and_true,Bool.and_eq_true,decide_eq_true_eq]
theorem zxC {z0 z1 z2 z3:Int}:Vbemak.decode [[7,z0,z1,z2,z3]]=if zz (kinds 7) [z0,z1,z2,z3]=true then some (Call.moveSome z0.toNat z1.toNat (Vbemak.techArg z2) z3.toNat) else none:=by
 show Vbemak.guard _ _=_
 unfold Vbemak.guard
 refine ifc ?_
 rw [zZz]
 simp only [Vbemak.isHand,Vbemak.isDevice,Vbemak.isMonth,Vbemak.isNumber,Vbemak.isUse,Vbemak.isTech,Vbemak.inside,Bool.and_eq_true,decide_eq_true_eq]
 try simp only [Vbemak.ACCOUNTS,Vbemak.DEVICES,Vbemak.MONTHS,Vbemak.NUMBERS,Vbemak.TECHS]
 all_goals omega
theorem z8v {z0 z1 z2 z3:Int}:zz (kinds 8) [z0,z1,z2,z3]=true↔((1:Int)≤z0∧z0≤32)∧((1:Int)≤z1∧z1≤1000000000)∧((1:Int)≤z2∧z2≤1000000000)∧((1:Int)≤z3∧z3≤1000000):=by
 simp only [zz,kinds,List.zip_cons_cons,List.zip_nil_right,List.all_cons,List.all_nil,inB,zQc,zHh,z8m,Bool.and_true,Bool.and_eq_true,decide_eq_true_eq]
theorem zLC {z0 z1 z2 z3:Int}:Vbemak.decode [[8,z0,z1,z2,z3]]=if zz (kinds 8) [z0,z1,z2,z3]=true then some (Call.cancel z0.toNat z1.toNat z2.toNat z3.toNat) else none:=by
 show Vbemak.guard _ _=_
 unfold Vbemak.guard
 refine ifc ?_
 rw [z8v]
 simp only [Vbemak.isHand,Vbemak.isDevice,Vbemak.isMonth,Vbemak.isNumber,Vbemak.isUse,Vbemak.isTech,Vbemak.inside,Bool.and_eq_true,decide_eq_true_eq]
 try simp only [Vbemak.ACCOUNTS,Vbemak.DEVICES,Vbemak.MONTHS,Vbemak.NUMBERS,Vbemak.TECHS]
 all_goals omega
theorem z5z {z0 z1 z2 z3:Int}:zz (kinds 9) [z0,z1,z2,z3]=true↔((1:Int)≤z0∧z0≤32)∧((-1:Int)≤z1∧z1≤9)∧((1:Int)≤z2∧z2≤1000000000)∧((1:Int)≤z3∧z3≤1000000):=by
 simp only [zz,kinds,List.zip_cons_cons,List.zip_nil_right,List.all_cons,List.all_nil,inB,zQc,zLk,zwm,z8m,Bool.and_true,Bool.and_eq_true,decide_eq_true_eq]
theorem zQC {z0 z1 z2 z3:Int}:Vbemak.decode [[9,z0,z1,z2,z3]]=if zz (kinds 9) [z0,z1,z2,z3]=true then some (Call.cancelSome z0.toNat (Vbemak.techArg z1) z2.toNat z3.toNat) else none:=by
 show Vbemak.guard _ _=_
 unfold Vbemak.guard
 refine ifc ?_
 rw [z5z]
 simp only [Vbemak.isHand,Vbemak.isDevice,Vbemak.isMonth,Vbemak.isNumber,Vbemak.isUse,Vbemak.isTech,Vbemak.inside,Bool.and_eq_true,decide_eq_true_eq]
 try simp only [Vbemak.ACCOUNTS,Vbemak.DEVICES,Vbemak.MONTHS,Vbemak.NUMBERS,Vbemak.TECHS]
 all_goals omega
theorem zfu {z0 z1 z2 z3:Int}:zz (kinds 10) [z0,z1,z2,z3]=true↔((1:Int)≤z0∧z0≤32)∧((1:Int)≤z1∧z1≤32)∧((1:Int)≤z2∧z2≤1000000000)∧((1:Int)≤z3∧z3≤1000000000):=by
 simp only [zz,kinds,List.zip_cons_cons,List.zip_nil_right,List.all_cons,List.all_nil,inB,zQc,zHh,Bool.and_true,Bool.and_eq_true,decide_eq_true_eq]
theorem zyB {z0 z1 z2 z3:Int}:Vbemak.decode [[10,z0,z1,z2,z3]]=if zz (kinds 10) [z0,z1,z2,z3]=true then some (Call.offer z0.toNat z1.toNat z2.toNat z3.toNat) else none:=by
 show Vbemak.guard _ _=_
 unfold Vbemak.guard
 refine ifc ?_
 rw [zfu]
 simp only [Vbemak.isHand,Vbemak.isDevice,Vbemak.isMonth,Vbemak.isNumber,Vbemak.isUse,Vbemak.isTech,Vbemak.inside,Bool.and_eq_true,decide_eq_true_eq]
 try simp only [Vbemak.ACCOUNTS,Vbemak.DEVICES,Vbemak.MONTHS,Vbemak.NUMBERS,Vbemak.TECHS]
 all_goals omega
theorem zQx {z0:Int}:zz (kinds 11) [z0]=true↔((1:Int)≤z0∧z0≤1000000000):=by
 simp only [zz,kinds,List.zip_cons_cons,List.zip_nil_right,List.all_cons,List.all_nil,inB,zHr,Bool.and_true,Bool.and_eq_true,decide_eq_true_eq]
theorem z6B {z0:Int}:Vbemak.decode [[11,z0]]=if zz (kinds 11) [z0]=true then some (Call.accept z0.toNat) else none:=by
 show Vbemak.guard _ _=_
 unfold Vbemak.guard
 refine ifc ?_
 rw [zQx]
 simp only [Vbemak.isHand,Vbemak.isDevice,Vbemak.isMonth,Vbemak.isNumber,Vbemak.isUse,Vbemak.isTech,Vbemak.inside,Bool.and_eq_true,decide_eq_true_eq]
 try simp only [Vbemak.ACCOUNTS,Vbemak.DEVICES,Vbemak.MONTHS,Vbemak.NUMBERS,Vbemak.TECHS]
 all_goals omega
theorem zix {z0:Int}:zz (kinds 12) [z0]=true↔((1:Int)≤z0∧z0≤1000000000):=by
 simp only [zz,kinds,List.zip_cons_cons,List.zip_nil_right,List.all_cons,List.all_nil,inB,zHr,Bool.and_true,Bool.and_eq_true,decide_eq_true_eq]
theorem zJB {z0:Int}:Vbemak.decode [[12,z0]]=if zz (kinds 12) [z0]=true then some (Call.decline z0.toNat) else none:=by
 show Vbemak.guard _ _=_
 unfold Vbemak.guard
 refine ifc ?_
 rw [zix]
 simp only [Vbemak.isHand,Vbemak.isDevice,Vbemak.isMonth,Vbemak.isNumber,Vbemak.isUse,Vbemak.isTech,Vbemak.inside,Bool.and_eq_true,decide_eq_true_eq]
 try simp only [Vbemak.ACCOUNTS,Vbemak.DEVICES,Vbemak.MONTHS,Vbemak.NUMBERS,Vbemak.TECHS]
 all_goals omega
theorem zMy {z0:Int}:zz (kinds 13) [z0]=true↔((0:Int)≤z0∧z0≤12000):=by
 simp only [zz,kinds,List.zip_cons_cons,List.zip_nil_right,List.all_cons,List.all_nil,inB,zPi,Bool.and_true,Bool.and_eq_true,decide_eq_true_eq]
theorem zfC {z0:Int}:Vbemak.decode [[13,z0]]=if zz (kinds 13) [z0]=true then some (Call.tick z0.toNat) else none:=by
 show Vbemak.guard _ _=_
 unfold Vbemak.guard
 refine ifc ?_
 rw [zMy]
 simp only [Vbemak.isHand,Vbemak.isDevice,Vbemak.isMonth,Vbemak.isNumber,Vbemak.isUse,Vbemak.isTech,Vbemak.inside,Bool.and_eq_true,decide_eq_true_eq]
 try simp only [Vbemak.ACCOUNTS,Vbemak.DEVICES,Vbemak.MONTHS,Vbemak.NUMBERS,Vbemak.TECHS]
 all_goals omega
theorem zxx {z0 z1:Int}:zz (kinds 14) [z0,z1]=true↔((1:Int)≤z0∧z0≤16)∧((1:Int)≤z1∧z1≤1000000000):=by
 simp only [zz,kinds,List.zip_cons_cons,List.zip_nil_right,List.all_cons,List.all_nil,inB,z3e,zwm,Bool.and_true,Bool.and_eq_true,decide_eq_true_eq]
theorem z9B {z0 z1:Int}:Vbemak.decode [[14,z0,z1]]=if zz (kinds 14) [z0,z1]=true then some (Call.withdraw z0.toNat z1.toNat) else none:=by
 show Vbemak.guard _ _=_
 unfold Vbemak.guard
 refine ifc ?_
 rw [zxx]
 simp only [Vbemak.isHand,Vbemak.isDevice,Vbemak.isMonth,Vbemak.isNumber,Vbemak.isUse,Vbemak.isTech,Vbemak.inside,Bool.and_eq_true,decide_eq_true_eq]
 try simp only [Vbemak.ACCOUNTS,Vbemak.DEVICES,Vbemak.MONTHS,Vbemak.NUMBERS,Vbemak.TECHS]
 all_goals omega
theorem zFy {z0:Int}:zz (kinds 15) [z0]=true↔((1:Int)≤z0∧z0≤1000000000):=by
 simp only [zz,kinds,List.zip_cons_cons,List.zip_nil_right,List.all_cons,List.all_nil,inB,zHh,Bool.and_true,Bool.and_eq_true,decide_eq_true_eq]
theorem zqB {z0:Int}:Vbemak.decode [[15,z0]]=if zz (kinds 15) [z0]=true then some (Call.where_ z0.toNat) else none:=by
 show Vbemak.guard _ _=_
 unfold Vbemak.guard
 refine ifc ?_
 rw [zFy]
 simp only [Vbemak.isHand,Vbemak.isDevice,Vbemak.isMonth,Vbemak.isNumber,Vbemak.isUse,Vbemak.isTech,Vbemak.inside,Bool.and_eq_true,decide_eq_true_eq]
 try simp only [Vbemak.ACCOUNTS,Vbemak.DEVICES,Vbemak.MONTHS,Vbemak.NUMBERS,Vbemak.TECHS]
 all_goals omega
theorem zwx {z0:Int}:zz (kinds 16) [z0]=true↔((1:Int)≤z0∧z0≤32):=by
 simp only [zz,kinds,List.zip_cons_cons,List.zip_nil_right,List.all_cons,List.all_nil,inB,zQc,Bool.and_true,Bool.and_eq_true,decide_eq_true_eq]
theorem ztB {z0:Int}:Vbemak.decode [[16,z0]]=if zz (kinds 16) [z0]=true then some (Call.holding z0.toNat) else none:=by
 show Vbemak.guard _ _=_
 unfold Vbemak.guard
 refine ifc ?_
 rw [zwx]
 simp only [Vbemak.isHand,Vbemak.isDevice,Vbemak.isMonth,Vbemak.isNumber,Vbemak.isUse,Vbemak.isTech,Vbemak.inside,Bool.and_eq_true,decide_eq_true_eq]
 try simp only [Vbemak.ACCOUNTS,Vbemak.DEVICES,Vbemak.MONTHS,Vbemak.NUMBERS,Vbemak.TECHS]
 all_goals omega
theorem z4x {z0 z1:Int}:zz (kinds 17) [z0,z1]=true↔((1:Int)≤z0∧z0≤32)∧((-1:Int)≤z1∧z1≤9):=by
 simp only [zz,kinds,List.zip_cons_cons,List.zip_nil_right,List.all_cons,List.all_nil,inB,zQc,zLk,Bool.and_true,Bool.and_eq_true,decide_eq_true_eq]
theorem zoB {z0 z1:Int}:Vbemak.decode [[17,z0,z1]]=if zz (kinds 17) [z0,z1]=true then some (Call.tally z0.toNat (Vbemak.techArg z1)) else none:=by
 show Vbemak.guard _ _=_
 unfold Vbemak.guard
 refine ifc ?_
 rw [z4x]
 simp only [Vbemak.isHand,Vbemak.isDevice,Vbemak.isMonth,Vbemak.isNumber,Vbemak.isUse,Vbemak.isTech,Vbemak.inside,Bool.and_eq_true,decide_eq_true_eq]
 try simp only [Vbemak.ACCOUNTS,Vbemak.DEVICES,Vbemak.MONTHS,Vbemak.NUMBERS,Vbemak.TECHS]
 all_goals omega
theorem zgx {z0:Int}:zz (kinds 18) [z0]=true↔((1:Int)≤z0∧z0≤1000000):=by
 simp only [zz,kinds,List.zip_cons_cons,List.zip_nil_right,List.all_cons,List.all_nil,inB,z8m,Bool.and_true,Bool.and_eq_true,decide_eq_true_eq]
theorem zeC {z0:Int}:Vbemak.decode [[18,z0]]=if zz (kinds 18) [z0]=true then some (Call.statement z0.toNat) else none:=by
 show Vbemak.guard _ _=_
 unfold Vbemak.guard
 refine ifc ?_
 rw [zgx]
 simp only [Vbemak.isHand,Vbemak.isDevice,Vbemak.isMonth,Vbemak.isNumber,Vbemak.isUse,Vbemak.isTech,Vbemak.inside,Bool.and_eq_true,decide_eq_true_eq]
 try simp only [Vbemak.ACCOUNTS,Vbemak.DEVICES,Vbemak.MONTHS,Vbemak.NUMBERS,Vbemak.TECHS]
 all_goals omega
theorem ziy {z0:Int}:zz (kinds 19) [z0]=true↔((1:Int)≤z0∧z0≤16):=by
 simp only [zz,kinds,List.zip_cons_cons,List.zip_nil_right,List.all_cons,List.all_nil,inB,z3e,Bool.and_true,Bool.and_eq_true,decide_eq_true_eq]
theorem zZB {z0:Int}:Vbemak.decode [[19,z0]]=if zz (kinds 19) [z0]=true then some (Call.info z0.toNat) else none:=by
 show Vbemak.guard _ _=_
 unfold Vbemak.guard
 refine ifc ?_
 rw [ziy]
 simp only [Vbemak.isHand,Vbemak.isDevice,Vbemak.isMonth,Vbemak.isNumber,Vbemak.isUse,Vbemak.isTech,Vbemak.inside,Bool.and_eq_true,decide_eq_true_eq]
 try simp only [Vbemak.ACCOUNTS,Vbemak.DEVICES,Vbemak.MONTHS,Vbemak.NUMBERS,Vbemak.TECHS]
 all_goals omega
theorem zdC:Vbemak.decode [[20]]=if zz (kinds 20) []=true then some Call.sums else none:=rfl
theorem zAx {z0 z1:Int}:zz (kinds 21) [z0,z1]=true↔((1:Int)≤z0∧z0≤1000000)∧((0:Int)≤z1∧z1≤1000000000):=by
 simp only [zz,kinds,List.zip_cons_cons,List.zip_nil_right,List.all_cons,List.all_nil,inB,z8m,zkz,Bool.and_true,Bool.and_eq_true,decide_eq_true_eq]
theorem zUB {z0 z1:Int}:Vbemak.decode [[21,z0,z1]]=if zz (kinds 21) [z0,z1]=true then some (Call.disclose z0.toNat z1.toNat) else none:=by
 show Vbemak.guard _ _=_
 unfold Vbemak.guard
 refine ifc ?_
 rw [zAx]
 simp only [Vbemak.isHand,Vbemak.isDevice,Vbemak.isMonth,Vbemak.isNumber,Vbemak.isUse,Vbemak.isTech,Vbemak.inside,Bool.and_eq_true,decide_eq_true_eq]
 try simp only [Vbemak.ACCOUNTS,Vbemak.DEVICES,Vbemak.MONTHS,Vbemak.NUMBERS,Vbemak.TECHS]
 all_goals omega
theorem z2B:Vbemak.decode [[22]]=if zz (kinds 22) []=true then some Call.offers else none:=rfl
theorem zsx {z0 z1:Int}:zz (kinds 23) [z0,z1]=true↔((1:Int)≤z0∧z0≤16)∧((0:Int)≤z1∧z1≤12000):=by
 simp only [zz,kinds,List.zip_cons_cons,List.zip_nil_right,List.all_cons,List.all_nil,inB,z3e,zPi,Bool.and_true,Bool.and_eq_true,decide_eq_true_eq]
theorem zlC {z0 z1:Int}:Vbemak.decode [[23,z0,z1]]=if zz (kinds 23) [z0,z1]=true then some (Call.total z0.toNat z1.toNat) else none:=by
 show Vbemak.guard _ _=_
 unfold Vbemak.guard
 refine ifc ?_
 rw [zsx]
 simp only [Vbemak.isHand,Vbemak.isDevice,Vbemak.isMonth,Vbemak.isNumber,Vbemak.isUse,Vbemak.isTech,Vbemak.inside,Bool.and_eq_true,decide_eq_true_eq]
 try simp only [Vbemak.ACCOUNTS,Vbemak.DEVICES,Vbemak.MONTHS,Vbemak.NUMBERS,Vbemak.TECHS]
 all_goals omega
def z3z (P:Nat→Prop):Nat→Prop
 |0=>True
 |n + 1=>z3z P n∧P n
theorem zXw {P:Nat→Prop} {p:Nat}:∀{n:Nat},z3z P n→p < n→P p
 |n + 1,h,l=>(Nat.lt_succ_iff_lt_or_eq.mp l).elim (zXw h.1) fun e=>e ▸ h.2
theorem zey {p:Nat} {zs:List Int} (hp:p≤23) (hz:zs.length=(kinds p).length):Vbemak.decode [(p:Int)::zs]=if zz (kinds p) zs=true then some (zDe p zs) else none:=
 zXw (P:=fun p=>∀zs:List Int,zs.length=(kinds p).length→Vbemak.decode [(p:Int)::zs]=if zz (kinds p) zs=true then some (zDe p zs) else none) (n:=24) ⟨⟨⟨⟨⟨⟨⟨⟨⟨⟨⟨⟨⟨⟨⟨⟨⟨⟨⟨⟨⟨⟨⟨⟨trivial,VM.z7b fun z0 z1=>zAC⟩,VM.len0 zsC⟩,VM.z7b fun z0 z1=>zqC⟩,VM.z7b fun z0 z1=>zFC⟩,VM.z0s fun z0 z1 z2=>zCC⟩,VM.z7b fun z0 z1=>zNC⟩,VM.zOd fun z0 z1 z2 z3=>zBC⟩,VM.zOd fun z0 z1 z2 z3=>zxC⟩,VM.zOd fun z0 z1 z2 z3=>zLC⟩,VM.zOd fun z0 z1 z2 z3=>zQC⟩,VM.zOd fun z0 z1 z2 z3=>zyB⟩,VM.zxc fun z0=>z6B⟩,VM.zxc fun z0=>zJB⟩,VM.zxc fun z0=>zfC⟩,VM.z7b fun z0 z1=>z9B⟩,VM.zxc fun z0=>zqB⟩,VM.zxc fun z0=>ztB⟩,VM.z7b fun z0 z1=>zoB⟩,VM.zxc fun z0=>zeC⟩,VM.zxc fun z0=>zZB⟩,VM.len0 zdC⟩,VM.z7b fun z0 z1=>zUB⟩,VM.len0 z2B⟩,VM.z7b fun z0 z1=>zlC⟩ (Nat.lt_succ_of_le hp) zs hz
theorem zeA {p:Nat} {zs:List Int} (hp:p≤23) (hz:zs.length=(kinds p).length) (ok:zz (kinds p) zs=true):VM.Rg (zDe p zs)∧VM.Rg2 (zDe p zs)∧Vbemak.isOpens (zDe p zs)=(p==0):=by
 refine zXw (P:=fun p=>∀zs:List Int,zs.length=(kinds p).length→zz (kinds p) zs=true→VM.Rg (zDe p zs)∧VM.Rg2 (zDe p zs)∧Vbemak.isOpens (zDe p zs)=(p==0)) (n:=24) ⟨⟨⟨⟨⟨⟨⟨⟨⟨⟨⟨⟨⟨⟨⟨⟨⟨⟨⟨⟨⟨⟨⟨⟨trivial,VM.z7b fun z0 z1=>fun _=>⟨trivial,trivial,rfl⟩⟩,VM.len0 (fun _=>⟨trivial,trivial,rfl⟩)⟩,?_⟩,VM.z7b fun z0 z1=>fun _=>⟨trivial,trivial,rfl⟩⟩,?_⟩,?_⟩,?_⟩,VM.zOd fun z0 z1 z2 z3=>fun _=>⟨trivial,trivial,rfl⟩⟩,?_⟩,VM.zOd fun z0 z1 z2 z3=>fun _=>⟨trivial,trivial,rfl⟩⟩,?_⟩,VM.zxc fun z0=>fun _=>⟨trivial,trivial,rfl⟩⟩,VM.zxc fun z0=>fun _=>⟨trivial,trivial,rfl⟩⟩,VM.zxc fun z0=>fun _=>⟨trivial,trivial,rfl⟩⟩,VM.z7b fun z0 z1=>fun _=>⟨trivial,trivial,rfl⟩⟩,VM.zxc fun z0=>fun _=>⟨trivial,trivial,rfl⟩⟩,VM.zxc fun z0=>fun _=>⟨trivial,trivial,rfl⟩⟩,VM.z7b fun z0 z1=>fun _=>⟨trivial,trivial,rfl⟩⟩,VM.zxc fun z0=>fun _=>⟨trivial,trivial,rfl⟩⟩,VM.zxc fun z0=>fun _=>⟨trivial,trivial,rfl⟩⟩,VM.len0 (fun _=>⟨trivial,trivial,rfl⟩)⟩,VM.z7b fun z0 z1=>fun _=>⟨trivial,trivial,rfl⟩⟩,VM.len0 (fun _=>⟨trivial,trivial,rfl⟩)⟩,VM.z7b fun z0 z1=>fun _=>⟨trivial,trivial,rfl⟩⟩ (Nat.lt_succ_of_le hp) zs hz ok
 ·refine VM.z7b fun z0 z1 ok=>?_
  rw [zaw] at ok
  refine ⟨?_,?_,rfl⟩
  ·show 1≤z0.toNat∧z1.toNat≤9
   omega
  ·show True
   trivial
 ·refine VM.z0s fun z0 z1 z2 ok=>?_
  rw [znw] at ok
  refine ⟨?_,?_,rfl⟩
  ·show 1≤z0.toNat
   omega
  ·show 0≤z2∧z2≤1000000000
   omega
 ·refine VM.z7b fun z0 z1 ok=>?_
  rw [z2v] at ok
  refine ⟨?_,?_,rfl⟩
  ·show 1≤z0.toNat
   omega
  ·show True
   trivial
 ·refine VM.zOd fun z0 z1 z2 z3 ok=>?_
  rw [zow] at ok
  refine ⟨?_,?_,rfl⟩
  ·show 1≤z2.toNat
   omega
  ·show True
   trivial
 ·refine VM.zOd fun z0 z1 z2 z3 ok=>?_
  rw [z8v] at ok
  refine ⟨?_,?_,rfl⟩
  ·show 1≤z1.toNat
   omega
  ·show True
   trivial
 ·refine VM.zOd fun z0 z1 z2 z3 ok=>?_
  rw [zfu] at ok
  refine ⟨?_,?_,rfl⟩
  ·show 1≤z2.toNat
   omega
  ·show True
   trivial
end Pv
namespace Pv
open PySem PySem.Spec PyProof.Rows L2
open Vbemak (Call)
section
variable {P:Program} {w:World} {K:PySem.W.Frag} {mg:Str→Option Value} {base:Heap} {A:Adr}
def zOs (A:Adr) (lo hi:Nat):Sp:=fun vs H Q _=>∃(L:Loc) (s:Sta) (x:Int) (p:Nat) (l:Addr) (zs:List Int),vs=[.ref L.bk,.int x,.ref l]∧x=p∧lo≤p∧p≤hi∧H l=some (.lst (zs.map V.int))∧zs.length=(kinds p).length∧zz (kinds p) zs=true∧zw A H L s∧VM.SInv s∧VM.zGe s∧zX A H L (VM.zY s (zDe p zs)) Q
abbrev zAn (A:Adr):Sp:=zOs A 0 5
theorem zxn (T:Txt K mg A):zG P w K mg base CX0 6 A.zoi A.zji ["book","place","arguments"] (zAn A):=by
 have zFs:=@zLq P w K mg base A T
 have z9t:=@z7r P w K mg base A T
 have zzA:=@zGz P w K mg base A T
 have zmA:=@zOz P w K mg base A T
 have zIy:=@zmw P w K mg base A T
 have zvy:=@zkw P w K mg base A T
 have nN:=zoh.nd
 refine T.zlc.F.ok zoh (fun vs H Q E h=>?_) (fun cdv B outer s H vs Q E hr h=>?_)
 ·obtain ⟨L,s,x,p,l,zs,rfl,_⟩:=h
  rfl
 ·obtain ⟨L,s,x,p,l,zs,rfl,rfl,hlo,hhi,hl,hz,ok,B,I,TI,k⟩:=h
  have hu:=zM hr
  refine ⟨_,(zd (zI (zC zMb (pv 1) zm (zE _)) (ze (zh (zn zIy hr T.zNe (za (pv 0) (za (zS zH (pv 2) zm (fun _ _=>rfl)) (za (zS zH (pv 2) zm (fun _ _=>rfl)) zb)))))) zx)
   (zd (zI (zC zMb (pv 1) zm (zE _)) (ze (zh (zn zFs hr T.z6c (za (pv 0) zb)))) zx)
   (zd (zI (zC zMb (pv 1) zm (zE _)) (ze (zh (zn z9t hr T.ztd (za (pv 0) (za (zS zH (pv 2) zm (fun _ _=>rfl)) (za (zS zH (pv 2) zm (fun _ _=>rfl)) zb)))))) zx)
   (zd (zI (zC zMb (pv 1) zm (zE _)) (ze (zh (zn zvy hr T.zBe (za (pv 0) (za (zS zH (pv 2) zm (fun _ _=>rfl)) (za (zS zH (pv 2) zm (fun _ _=>rfl)) zb)))))) zx)
   (zd (zI (zC zMb (pv 1) zm (zE _)) (ze (zh (zn zmA hr T.zpg (za (pv 0) (za (zS zH (pv 2) zm (fun _ _=>rfl)) (za (zS zH (pv 2) zm (fun _ _=>rfl)) (za (zS zH (pv 2) zm (fun _ _=>rfl)) zb))))))) zx)
   (ze (zh (zn zzA hr T.zqg (za (pv 0) (za (zS zH (pv 2) zm (fun _ _=>rfl)) (za (zS zH (pv 2) zm (fun _ _=>rfl)) zb))))))))))),?_⟩
  rcases (show p=0∨p=1∨p=2∨p=3∨p=4∨p=5 by omega) with rfl|rfl|rfl|rfl|rfl|rfl
  ·obtain ⟨z0,z1,rfl⟩:=z7b hz
   rw [zYz] at ok
   refine ⟨_,rfl,rfl,_,rfl,zic ?_⟩
   exact ⟨_,rfl,_,rfl,l,_,0,_,rfl,rfl,SqL.of hl,at_of (j:=0) rfl rfl,_,rfl,l,_,1,_,rfl,rfl,SqL.of hl,at_of (j:=1) rfl rfl,L,s,_,_,z0.toNat,z1.toNat,rfl,by omega,by omega,B,k⟩
  ·obtain rfl:=len0 hz
   refine ⟨_,rfl,rfl,_,rfl,zO ?_⟩
   refine ⟨_,rfl,rfl,_,rfl,zic ?_⟩
   exact ⟨_,rfl,L,s,rfl,B,k⟩
  ·obtain ⟨z0,z1,rfl⟩:=z7b hz
   rw [zaw] at ok
   refine ⟨_,rfl,rfl,_,rfl,zO ?_⟩
   refine ⟨_,rfl,rfl,_,rfl,zO ?_⟩
   refine ⟨_,rfl,rfl,_,rfl,zic ?_⟩
   exact ⟨_,rfl,_,rfl,l,_,0,_,rfl,rfl,SqL.of hl,at_of (j:=0) rfl rfl,_,rfl,l,_,1,_,rfl,rfl,SqL.of hl,at_of (j:=1) rfl rfl,L,s,_,_,z0.toNat,z1.toNat,rfl,by omega,by omega,by omega,B,k⟩
  ·obtain ⟨z0,z1,rfl⟩:=z7b hz
   rw [z4z] at ok
   refine ⟨_,rfl,rfl,_,rfl,zO ?_⟩
   refine ⟨_,rfl,rfl,_,rfl,zO ?_⟩
   refine ⟨_,rfl,rfl,_,rfl,zO ?_⟩
   refine ⟨_,rfl,rfl,_,rfl,zic ?_⟩
   exact ⟨_,rfl,_,rfl,l,_,0,_,rfl,rfl,SqL.of hl,at_of (j:=0) rfl rfl,_,rfl,l,_,1,_,rfl,rfl,SqL.of hl,at_of (j:=1) rfl rfl,L,s,_,_,z0.toNat,z1.toNat,rfl,by omega,by omega,by omega,by omega,B,k⟩
  ·obtain ⟨z0,z1,z2,rfl⟩:=z0s hz
   rw [znw] at ok
   refine ⟨_,rfl,rfl,_,rfl,zO ?_⟩
   refine ⟨_,rfl,rfl,_,rfl,zO ?_⟩
   refine ⟨_,rfl,rfl,_,rfl,zO ?_⟩
   refine ⟨_,rfl,rfl,_,rfl,zO ?_⟩
   refine ⟨_,rfl,rfl,_,rfl,zic ?_⟩
   exact ⟨_,rfl,_,rfl,l,_,0,_,rfl,rfl,SqL.of hl,at_of (j:=0) rfl rfl,_,rfl,l,_,1,_,rfl,rfl,SqL.of hl,at_of (j:=1) rfl rfl,_,rfl,l,_,2,_,rfl,rfl,SqL.of hl,at_of (j:=2) rfl rfl,L,s,_,_,z2,z0.toNat,z1.toNat,rfl,by omega,by omega,by omega,B,I,k⟩
  ·obtain ⟨z0,z1,rfl⟩:=z7b hz
   rw [z2v] at ok
   refine ⟨_,rfl,rfl,_,rfl,zO ?_⟩
   refine ⟨_,rfl,rfl,_,rfl,zO ?_⟩
   refine ⟨_,rfl,rfl,_,rfl,zO ?_⟩
   refine ⟨_,rfl,rfl,_,rfl,zO ?_⟩
   refine ⟨_,rfl,rfl,_,rfl,zO ?_⟩
   exact ⟨_,rfl,_,rfl,l,_,0,_,rfl,rfl,SqL.of hl,at_of (j:=0) rfl rfl,_,rfl,l,_,1,_,rfl,rfl,SqL.of hl,at_of (j:=1) rfl rfl,L,s,_,_,z0.toNat,z1.toNat,rfl,by omega,by omega,by omega,B,I,k⟩
abbrev zGo (A:Adr):Sp:=zOs A 6 12
theorem zBo (T:Txt K mg A) (LM:zHj base mg A):zG P w K mg base CX0 9 A.zRi A.zSi ["book","place","arguments"] (zGo A):=by
 have zWy:=@zfy P w K mg base A T
 have zcz:=@zyx P w K mg base A T
 have zfs:=@zwq P w K mg base A T LM
 have zAy:=@zdx P w K mg base A T
 have zst:=@zzs P w K mg base A T
 have z3B:=@zKA P w K mg base A T
 have zbv:=@zBt P w K mg base A T LM
 have nN:=zWh.nd
 refine T.zDc.F.ok zWh (fun vs H Q E h=>?_) (fun cdv B outer s H vs Q E hr h=>?_)
 ·obtain ⟨L,s,x,p,l,zs,rfl,_⟩:=h
  rfl
 ·obtain ⟨L,s,x,p,l,zs,rfl,rfl,hlo,hhi,hl,hz,ok,B,I,TI,k⟩:=h
  have hu:=zM hr
  refine ⟨_,(zd (zI (zC zMb (pv 1) zm (zE _)) (ze (zh (zn z3B hr T.zVh (za (pv 0) (za (zS zH (pv 2) zm (fun _ _=>rfl)) (za (zS zH (pv 2) zm (fun _ _=>rfl)) (za (zS zH (pv 2) zm (fun _ _=>rfl)) (za (zS zH (pv 2) zm (fun _ _=>rfl)) zb)))))))) zx)
   (zd (zI (zC zMb (pv 1) zm (zE _)) (ze (zh (zn zbv hr T.zUd (za (pv 0) (za (zS zH (pv 2) zm (fun _ _=>rfl)) (za (zS zH (pv 2) zm (fun _ _=>rfl)) (za (zS zH (pv 2) zm (fun _ _=>rfl)) (za (zS zH (pv 2) zm (fun _ _=>rfl)) zb)))))))) zx)
   (zd (zI (zC zMb (pv 1) zm (zE _)) (ze (zh (zn zcz hr T.zHf (za (pv 0) (za (zS zH (pv 2) zm (fun _ _=>rfl)) (za (zS zH (pv 2) zm (fun _ _=>rfl)) (za (zS zH (pv 2) zm (fun _ _=>rfl)) (za (zS zH (pv 2) zm (fun _ _=>rfl)) zb)))))))) zx)
   (zd (zI (zC zMb (pv 1) zm (zE _)) (ze (zh (zn zfs hr T.zad (za (pv 0) (za (zS zH (pv 2) zm (fun _ _=>rfl)) (za (zS zH (pv 2) zm (fun _ _=>rfl)) (za (zS zH (pv 2) zm (fun _ _=>rfl)) (za (zS zH (pv 2) zm (fun _ _=>rfl)) zb)))))))) zx)
   (zd (zI (zC zMb (pv 1) zm (zE _)) (ze (zh (zn zst hr T.zvd (za (pv 0) (za (zS zH (pv 2) zm (fun _ _=>rfl)) (za (zS zH (pv 2) zm (fun _ _=>rfl)) (za (zS zH (pv 2) zm (fun _ _=>rfl)) (za (zS zH (pv 2) zm (fun _ _=>rfl)) zb)))))))) zx)
   (zd (zI (zC zMb (pv 1) zm (zE _)) (ze (zh (zn zWy hr T.zIf (za (pv 0) (za (zS zH (pv 2) zm (fun _ _=>rfl)) zb))))) zx)
   (ze (zh (zn zAy hr T.zJe (za (pv 0) (za (zS zH (pv 2) zm (fun _ _=>rfl)) zb))))))))))),?_⟩
  rcases (show p=6∨p=7∨p=8∨p=9∨p=10∨p=11∨p=12 by omega) with rfl|rfl|rfl|rfl|rfl|rfl|rfl
  ·obtain ⟨z0,z1,z2,z3,rfl⟩:=zOd hz
   rw [zow] at ok
   refine ⟨_,rfl,rfl,_,rfl,zic ?_⟩
   exact ⟨_,rfl,_,rfl,l,_,0,_,rfl,rfl,SqL.of hl,at_of (j:=0) rfl rfl,_,rfl,l,_,1,_,rfl,rfl,SqL.of hl,at_of (j:=1) rfl rfl,_,rfl,l,_,2,_,rfl,rfl,SqL.of hl,at_of (j:=2) rfl rfl,_,rfl,l,_,3,_,rfl,rfl,SqL.of hl,at_of (j:=3) rfl rfl,L,s,_,_,_,_,z0.toNat,z1.toNat,z2.toNat,z3.toNat,rfl,by omega,by omega,by omega,by omega,by omega,by omega,by omega,B,I,k⟩
  ·obtain ⟨z0,z1,z2,z3,rfl⟩:=zOd hz
   rw [zZz] at ok
   refine ⟨_,rfl,rfl,_,rfl,zO ?_⟩
   refine ⟨_,rfl,rfl,_,rfl,zic ?_⟩
   exact ⟨_,rfl,_,rfl,l,_,0,_,rfl,rfl,SqL.of hl,at_of (j:=0) rfl rfl,_,rfl,l,_,1,_,rfl,rfl,SqL.of hl,at_of (j:=1) rfl rfl,_,rfl,l,_,2,_,rfl,rfl,SqL.of hl,at_of (j:=2) rfl rfl,_,rfl,l,_,3,_,rfl,rfl,SqL.of hl,at_of (j:=3) rfl rfl,L,s,_,_,z2,_,z0.toNat,z1.toNat,z3.toNat,rfl,by omega,by omega,by omega,by omega,by omega,by omega,B,I,k⟩
  ·obtain ⟨z0,z1,z2,z3,rfl⟩:=zOd hz
   rw [z8v] at ok
   refine ⟨_,rfl,rfl,_,rfl,zO ?_⟩
   refine ⟨_,rfl,rfl,_,rfl,zO ?_⟩
   refine ⟨_,rfl,rfl,_,rfl,zic ?_⟩
   exact ⟨_,rfl,_,rfl,l,_,0,_,rfl,rfl,SqL.of hl,at_of (j:=0) rfl rfl,_,rfl,l,_,1,_,rfl,rfl,SqL.of hl,at_of (j:=1) rfl rfl,_,rfl,l,_,2,_,rfl,rfl,SqL.of hl,at_of (j:=2) rfl rfl,_,rfl,l,_,3,_,rfl,rfl,SqL.of hl,at_of (j:=3) rfl rfl,L,s,_,_,_,_,z0.toNat,z1.toNat,z2.toNat,z3.toNat,rfl,by omega,by omega,by omega,by omega,by omega,by omega,B,I,k⟩
  ·obtain ⟨z0,z1,z2,z3,rfl⟩:=zOd hz
   rw [z5z] at ok
   refine ⟨_,rfl,rfl,_,rfl,zO ?_⟩
   refine ⟨_,rfl,rfl,_,rfl,zO ?_⟩
   refine ⟨_,rfl,rfl,_,rfl,zO ?_⟩
   refine ⟨_,rfl,rfl,_,rfl,zic ?_⟩
   exact ⟨_,rfl,_,rfl,l,_,0,_,rfl,rfl,SqL.of hl,at_of (j:=0) rfl rfl,_,rfl,l,_,1,_,rfl,rfl,SqL.of hl,at_of (j:=1) rfl rfl,_,rfl,l,_,2,_,rfl,rfl,SqL.of hl,at_of (j:=2) rfl rfl,_,rfl,l,_,3,_,rfl,rfl,SqL.of hl,at_of (j:=3) rfl rfl,L,s,_,z1,_,_,z0.toNat,z2.toNat,z3.toNat,rfl,by omega,by omega,by omega,by omega,by omega,B,I,k⟩
  ·obtain ⟨z0,z1,z2,z3,rfl⟩:=zOd hz
   rw [zfu] at ok
   refine ⟨_,rfl,rfl,_,rfl,zO ?_⟩
   refine ⟨_,rfl,rfl,_,rfl,zO ?_⟩
   refine ⟨_,rfl,rfl,_,rfl,zO ?_⟩
   refine ⟨_,rfl,rfl,_,rfl,zO ?_⟩
   refine ⟨_,rfl,rfl,_,rfl,zic ?_⟩
   exact ⟨_,rfl,_,rfl,l,_,0,_,rfl,rfl,SqL.of hl,at_of (j:=0) rfl rfl,_,rfl,l,_,1,_,rfl,rfl,SqL.of hl,at_of (j:=1) rfl rfl,_,rfl,l,_,2,_,rfl,rfl,SqL.of hl,at_of (j:=2) rfl rfl,_,rfl,l,_,3,_,rfl,rfl,SqL.of hl,at_of (j:=3) rfl rfl,L,s,_,_,_,_,z0.toNat,z1.toNat,z2.toNat,z3.toNat,rfl,by omega,by omega,by omega,by omega,by omega,by omega,by omega,B,I,k⟩
  ·obtain ⟨z0,rfl⟩:=zxc hz
   rw [zQx] at ok
   refine ⟨_,rfl,rfl,_,rfl,zO ?_⟩
   refine ⟨_,rfl,rfl,_,rfl,zO ?_⟩
   refine ⟨_,rfl,rfl,_,rfl,zO ?_⟩
   refine ⟨_,rfl,rfl,_,rfl,zO ?_⟩
   refine ⟨_,rfl,rfl,_,rfl,zO ?_⟩
   refine ⟨_,rfl,rfl,_,rfl,zic ?_⟩
   exact ⟨_,rfl,_,rfl,l,_,0,_,rfl,rfl,SqL.of hl,at_of (j:=0) rfl rfl,L,s,_,z0.toNat,rfl,by omega,B,I,k⟩
  ·obtain ⟨z0,rfl⟩:=zxc hz
   rw [zix] at ok
   refine ⟨_,rfl,rfl,_,rfl,zO ?_⟩
   refine ⟨_,rfl,rfl,_,rfl,zO ?_⟩
   refine ⟨_,rfl,rfl,_,rfl,zO ?_⟩
   refine ⟨_,rfl,rfl,_,rfl,zO ?_⟩
   refine ⟨_,rfl,rfl,_,rfl,zO ?_⟩
   refine ⟨_,rfl,rfl,_,rfl,zO ?_⟩
   exact ⟨_,rfl,_,rfl,l,_,0,_,rfl,rfl,SqL.of hl,at_of (j:=0) rfl rfl,L,s,_,z0.toNat,rfl,by omega,B,I,k⟩
abbrev zFo (A:Adr):Sp:=zOs A 13 14
theorem zJo (T:Txt K mg A):zG P w K mg base CX0 8 A.zCi A.zYi ["book","place","arguments"] (zFo A):=by
 have zkB:=@zoA P w K mg base A T
 have zsw:=@z1u P w K mg base A T
 have nN:=zni.nd
 refine T.zAc.F.ok zni (fun vs H Q E h=>?_) (fun cdv B outer s H vs Q E hr h=>?_)
 ·obtain ⟨L,s,x,p,l,zs,rfl,_⟩:=h
  rfl
 ·obtain ⟨L,s,x,p,l,zs,rfl,rfl,hlo,hhi,hl,hz,ok,B,I,TI,k⟩:=h
  have hu:=zM hr
  refine ⟨_,(zd (zI (zC zMb (pv 1) zm (zE _)) (ze (zh (zn zkB hr T.zti (za (pv 0) (za (zS zH (pv 2) zm (fun _ _=>rfl)) zb))))) zx)
   (ze (zh (zn zsw hr T.zfe (za (pv 0) (za (zS zH (pv 2) zm (fun _ _=>rfl)) (za (zS zH (pv 2) zm (fun _ _=>rfl)) zb))))))),?_⟩
  rcases (show p=13∨p=14 by omega) with rfl|rfl
  ·obtain ⟨z0,rfl⟩:=zxc hz
   rw [zMy] at ok
   refine ⟨_,rfl,rfl,_,rfl,zic ?_⟩
   exact ⟨_,rfl,_,rfl,l,_,0,_,rfl,rfl,SqL.of hl,at_of (j:=0) rfl rfl,L,s,_,z0.toNat,rfl,by omega,B,I,k⟩
  ·obtain ⟨z0,z1,rfl⟩:=z7b hz
   rw [zxx] at ok
   refine ⟨_,rfl,rfl,_,rfl,zO ?_⟩
   exact ⟨_,rfl,_,rfl,l,_,0,_,rfl,rfl,SqL.of hl,at_of (j:=0) rfl rfl,_,rfl,l,_,1,_,rfl,rfl,SqL.of hl,at_of (j:=1) rfl rfl,L,s,_,_,z0.toNat,z1.toNat,rfl,by omega,by omega,by omega,by omega,B,I,k⟩
abbrev zxo (A:Adr):Sp:=zOs A 15 23
theorem zVo (T:Txt K mg A) (LM:zHj base mg A):zG P w K mg base CX0 6 A.z7i A.z6i ["book","place","arguments"] (zxo A):=by
 have zOw:=@zHu P w K mg base A T LM
 have zRx:=@zpw P w K mg base A T
 have zsB:=@zBA P w K mg base A T
 have zgs:=@zCq P w K mg base A T
 have zws:=@znq P w K mg base A T
 have zZu:=@zrt P w K mg base A T
 have znB:=@ztA P w K mg base A T
 have zYA:=@zXz P w K mg base A T
 have zOA:=@zRy P w K mg base A T
 have nN:=zhi.nd
 refine T.zzc.F.ok zhi (fun vs H Q E h=>?_) (fun cdv B outer s H vs Q E hr h=>?_)
 ·obtain ⟨L,s,x,p,l,zs,rfl,_⟩:=h
  rfl
 ·obtain ⟨L,s,x,p,l,zs,rfl,rfl,hlo,hhi,hl,hz,ok,B,I,TI,k⟩:=h
  have hu:=zM hr
  refine ⟨_,(zd (zI (zC zMb (pv 1) zm (zE _)) (ze (zh (zn zOA hr T.zrg (za (pv 0) (za (zS zH (pv 2) zm (fun _ _=>rfl)) zb))))) zx)
   (zd (zI (zC zMb (pv 1) zm (zE _)) (ze (zh (zn zRx hr T.zAe (za (pv 0) (za (zS zH (pv 2) zm (fun _ _=>rfl)) zb))))) zx)
   (zd (zI (zC zMb (pv 1) zm (zE _)) (ze (zh (zn zYA hr T.zzg (za (pv 0) (za (zS zH (pv 2) zm (fun _ _=>rfl)) (za (zS zH (pv 2) zm (fun _ _=>rfl)) zb)))))) zx)
   (zd (zI (zC zMb (pv 1) zm (zE _)) (ze (zh (zn zZu hr T.zNd (za (pv 0) (za (zS zH (pv 2) zm (fun _ _=>rfl)) zb))))) zx)
   (zd (zI (zC zMb (pv 1) zm (zE _)) (ze (zh (zn zsB hr T.z8h (za (pv 0) (za (zS zH (pv 2) zm (fun _ _=>rfl)) zb))))) zx)
   (zd (zI (zC zMb (pv 1) zm (zE _)) (ze (zh (zn znB hr T.zli (za (pv 0) zb)))) zx)
   (zd (zI (zC zMb (pv 1) zm (zE _)) (ze (zh (zn zOw hr T.zae (za (pv 0) (za (zS zH (pv 2) zm (fun _ _=>rfl)) (za (zS zH (pv 2) zm (fun _ _=>rfl)) zb)))))) zx)
   (zd (zI (zC zMb (pv 1) zm (zE _)) (ze (zh (zn zgs hr T.zbd (za (pv 0) zb)))) zx)
   (ze (zh (zn zws hr T.z8c (za (pv 0) (za (zS zH (pv 2) zm (fun _ _=>rfl)) (za (zS zH (pv 2) zm (fun _ _=>rfl)) zb)))))))))))))),?_⟩
  rcases (show p=15∨p=16∨p=17∨p=18∨p=19∨p=20∨p=21∨p=22∨p=23 by omega) with rfl|rfl|rfl|rfl|rfl|rfl|rfl|rfl|rfl
  ·obtain ⟨z0,rfl⟩:=zxc hz
   rw [zFy] at ok
   refine ⟨_,rfl,rfl,_,rfl,zic ?_⟩
   exact ⟨_,rfl,_,rfl,l,_,0,_,rfl,rfl,SqL.of hl,at_of (j:=0) rfl rfl,L,s,_,z0.toNat,rfl,by omega,B,I,k⟩
  ·obtain ⟨z0,rfl⟩:=zxc hz
   rw [zwx] at ok
   refine ⟨_,rfl,rfl,_,rfl,zO ?_⟩
   refine ⟨_,rfl,rfl,_,rfl,zic ?_⟩
   exact ⟨_,rfl,_,rfl,l,_,0,_,rfl,rfl,SqL.of hl,at_of (j:=0) rfl rfl,L,s,_,z0.toNat,rfl,by omega,by omega,B,I,k⟩
  ·obtain ⟨z0,z1,rfl⟩:=z7b hz
   rw [z4x] at ok
   refine ⟨_,rfl,rfl,_,rfl,zO ?_⟩
   refine ⟨_,rfl,rfl,_,rfl,zO ?_⟩
   refine ⟨_,rfl,rfl,_,rfl,zic ?_⟩
   exact ⟨_,rfl,_,rfl,l,_,0,_,rfl,rfl,SqL.of hl,at_of (j:=0) rfl rfl,_,rfl,l,_,1,_,rfl,rfl,SqL.of hl,at_of (j:=1) rfl rfl,L,s,_,z1,z0.toNat,rfl,by omega,by omega,by omega,B,I,k⟩
  ·obtain ⟨z0,rfl⟩:=zxc hz
   rw [zgx] at ok
   refine ⟨_,rfl,rfl,_,rfl,zO ?_⟩
   refine ⟨_,rfl,rfl,_,rfl,zO ?_⟩
   refine ⟨_,rfl,rfl,_,rfl,zO ?_⟩
   refine ⟨_,rfl,rfl,_,rfl,zic ?_⟩
   exact ⟨_,rfl,_,rfl,l,_,0,_,rfl,rfl,SqL.of hl,at_of (j:=0) rfl rfl,L,s,_,z0.toNat,rfl,by omega,B,I,k⟩
  ·obtain ⟨z0,rfl⟩:=zxc hz
   rw [ziy] at ok
   refine ⟨_,rfl,rfl,_,rfl,zO ?_⟩
   refine ⟨_,rfl,rfl,_,rfl,zO ?_⟩
   refine ⟨_,rfl,rfl,_,rfl,zO ?_⟩
   refine ⟨_,rfl,rfl,_,rfl,zO ?_⟩
   refine ⟨_,rfl,rfl,_,rfl,zic ?_⟩
   exact ⟨_,rfl,_,rfl,l,_,0,_,rfl,rfl,SqL.of hl,at_of (j:=0) rfl rfl,L,s,_,z0.toNat,rfl,by omega,by omega,B,I,k⟩
  ·obtain rfl:=len0 hz
   refine ⟨_,rfl,rfl,_,rfl,zO ?_⟩
   refine ⟨_,rfl,rfl,_,rfl,zO ?_⟩
   refine ⟨_,rfl,rfl,_,rfl,zO ?_⟩
   refine ⟨_,rfl,rfl,_,rfl,zO ?_⟩
   refine ⟨_,rfl,rfl,_,rfl,zO ?_⟩
   refine ⟨_,rfl,rfl,_,rfl,zic ?_⟩
   exact ⟨_,rfl,L,s,rfl,B,I,k⟩
  ·obtain ⟨z0,z1,rfl⟩:=z7b hz
   rw [zAx] at ok
   refine ⟨_,rfl,rfl,_,rfl,zO ?_⟩
   refine ⟨_,rfl,rfl,_,rfl,zO ?_⟩
   refine ⟨_,rfl,rfl,_,rfl,zO ?_⟩
   refine ⟨_,rfl,rfl,_,rfl,zO ?_⟩
   refine ⟨_,rfl,rfl,_,rfl,zO ?_⟩
   refine ⟨_,rfl,rfl,_,rfl,zO ?_⟩
   refine ⟨_,rfl,rfl,_,rfl,zic ?_⟩
   exact ⟨_,rfl,_,rfl,l,_,0,_,rfl,rfl,SqL.of hl,at_of (j:=0) rfl rfl,_,rfl,l,_,1,_,rfl,rfl,SqL.of hl,at_of (j:=1) rfl rfl,L,s,_,_,z0.toNat,z1.toNat,rfl,by omega,by omega,by omega,B,I,TI,k⟩
  ·obtain rfl:=len0 hz
   refine ⟨_,rfl,rfl,_,rfl,zO ?_⟩
   refine ⟨_,rfl,rfl,_,rfl,zO ?_⟩
   refine ⟨_,rfl,rfl,_,rfl,zO ?_⟩
   refine ⟨_,rfl,rfl,_,rfl,zO ?_⟩
   refine ⟨_,rfl,rfl,_,rfl,zO ?_⟩
   refine ⟨_,rfl,rfl,_,rfl,zO ?_⟩
   refine ⟨_,rfl,rfl,_,rfl,zO ?_⟩
   refine ⟨_,rfl,rfl,_,rfl,zic ?_⟩
   exact ⟨_,rfl,L,s,rfl,B,I,k⟩
  ·obtain ⟨z0,z1,rfl⟩:=z7b hz
   rw [zsx] at ok
   refine ⟨_,rfl,rfl,_,rfl,zO ?_⟩
   refine ⟨_,rfl,rfl,_,rfl,zO ?_⟩
   refine ⟨_,rfl,rfl,_,rfl,zO ?_⟩
   refine ⟨_,rfl,rfl,_,rfl,zO ?_⟩
   refine ⟨_,rfl,rfl,_,rfl,zO ?_⟩
   refine ⟨_,rfl,rfl,_,rfl,zO ?_⟩
   refine ⟨_,rfl,rfl,_,rfl,zO ?_⟩
   refine ⟨_,rfl,rfl,_,rfl,zO ?_⟩
   exact ⟨_,rfl,_,rfl,l,_,0,_,rfl,rfl,SqL.of hl,at_of (j:=0) rfl rfl,_,rfl,l,_,1,_,rfl,rfl,SqL.of hl,at_of (j:=1) rfl rfl,L,s,_,_,z0.toNat,z1.toNat,rfl,by omega,by omega,by omega,B,I,k⟩
end
end Pv
namespace Pv
open PySem PySem.Spec PyProof.Rows L2
open Vbemak (Call)
theorem z6z {s:Sta} {p:Nat} {zs:List Int} (hp:p≤23) (hz:zs.length=(kinds p).length):
  Vbemak.stepNumbers s [(p:Int)::zs]=if zz (kinds p) zs=true then (if s.opened=false∧(p==0)=false then (s,[-2]) else VM.zY s (zDe p zs)) else (s,[-1]):=by
 unfold Vbemak.stepNumbers
 rw [zey hp hz]
 by_cases ok:zz (kinds p) zs=true
 ·rw [if_pos ok,if_pos ok]
  show Vbemak.step s (zDe p zs)=_
  unfold Vbemak.step
  rw [(zeA hp hz ok).2.2]
  rfl
 ·rw [if_neg ok,if_neg ok]
theorem z5x {s:Sta} {p:Nat} {zs:List Int} (hp:p≤23) (hz:zs.length=(kinds p).length) (I:VM.SInv s) (TI:VM.zGe s):VM.SInv (Vbemak.stepNumbers s [(p:Int)::zs]).1∧VM.zGe (Vbemak.stepNumbers s [(p:Int)::zs]).1∧(Vbemak.stepNumbers s [(p:Int)::zs]).2.length≤1291:=by
 rw [z6z hp hz]
 by_cases ok:zz (kinds p) zs=true
 ·rw [if_pos ok]
  obtain ⟨r1,r2,_⟩:=zeA hp hz ok
  split
  ·exact ⟨I,TI,by show 1≤1291;decide⟩
  ·exact ⟨VM.zgy I r1,VM.zay TI r2,VM.zry I⟩
 ·rw [if_neg ok]
  exact ⟨I,TI,by show 1≤1291;decide⟩
theorem zX.same {A:Adr} {H H1:Hp} {L:Loc} {r:Sta×List Int} {Q:VK} (k:zX A H L r Q) (s:zB H H1):zX A H1 L r Q:=
 fun H' L' q B hq kp=>k H' L' q B hq ⟨kp.bk,fun b o e n=>kp.keep b o (s _ _ e) n,fun b h=>(kp.sub b h).imp id s.free⟩
theorem z6m {p d:Addr} {o:HO} {H H5:Hp} (k:But p H H5) (hp:H5 p=some o) (hd:H5 d=Option.none):d≠p∧H d=Option.none∧∀u o':HO,But p H (upd (upd H5 d u) p o')∧upd (upd H5 d u) p o' p=some o'∧upd (upd H5 d u) p o' d=some u∧∀b v,H5 b=some v→b≠p→upd (upd H5 d u) p o' b=some v:=by
 have n:d≠p:=(zk hp hd).symm
 have f:H d=Option.none:=by
  cases e:H d with
  |none=>rfl
  |some v=>
   have:=k _ _ e n
   rw [hd] at this
   cases this
 refine ⟨n,f,fun u o'=>⟨fun b v e nb=>?_,zc,(zi n).trans zc,fun b v e nb=>?_⟩⟩
 ·rw [zi nb,zi (zk e f)]
  exact k _ _ e nb
 ·rw [zi nb,zi (zk e hd)]
  exact e
theorem zw.aside {A:Adr} {H H':Hp} {L:Loc} {s:Sta} {r:Addr} {o:HO} (B:zw A H L s) (k:But r H H') (n:r∉L.own A) (nr:r≠L.rl) (hr:H r=some o) (w:Own A o) (nd:∀dx fs,o≠.ins A.zy dx fs):zw A H' L s:=by
 have n1:∀b∈L.own A,b≠r:=fun b hb e=>n (e ▸ hb)
 exact {
  book:=let ⟨dx,h⟩:=B.book;⟨dx,k _ _ h (n1 _ (zif A L))⟩
  devs:=k _ _ B.devs (n1 _ (zKy A L))
  dev:=zQh k hr nd B.dev
  nd:=B.nd
  tots:=let ⟨kvs,h,p⟩:=B.tots;⟨kvs,k _ _ h (n1 _ (zty A L)),p⟩
  runs:=zie k hr w nr.symm B.runs
  rne:=B.rne
  offs:=let ⟨oas,h,p⟩:=B.offs;⟨oas,k _ _ h (n1 _ (z6t A L)),zGf k hr w p⟩
  t1:=zDd k hr w B.t1
  t2:=zDd k hr w B.t2 }
theorem zyA {A:Adr} {od:Obj} {u:HO}:Own A (.frz od u):=⟨fun _ z=>(nomatch z),fun _ z=>(nomatch z),fun _ z=>(nomatch z),fun _ _ z=>(nomatch z),fun _ _ z=>(nomatch z)⟩
theorem zuA (zs:List Int) (i n:Nat) (h:i + n≤zs.length):z2k (zs.map V.int) (some (i:Int)) (some ((i + n:Nat):Int))=((zs.drop i).take n).map V.int:=by
 unfold z2k
 rw [HT.sIx_nat,HT.sIx_nat,List.length_map,Nat.min_eq_left h,Nat.min_eq_left (show i≤zs.length by omega),List.map_take,List.map_drop]
 congr 1
 omega
section
variable {P:Program} {w:World} {K:PySem.W.Frag} {mg:Str→Option Value} {base:Heap} {A:Adr}
def zDq (A:Adr):Sp:=fun vs H Q _=>∃(L:Loc) (s:Sta) (x:Int) (p:Nat) (l:Addr) (zs:List Int),vs=[.ref L.bk,.int x,.ref l]∧x=p∧p≤23∧H l=some (.lst (zs.map V.int))∧zs.length=(kinds p).length∧zw A H L s∧VM.SInv s∧VM.zGe s∧zX A H L (Vbemak.stepNumbers s [(p:Int)::zs]) Q
theorem zrq (T:Txt K mg A) (LM:zHj base mg A) (DC:zar P w K A):zG P w K mg base CX0 10 A.zjl A.zvl ["book","place","arguments"] (zDq A):=by
 have zBq:=@z8o P w K mg base A T DC
 have z3o:=@zVo P w K mg base A T LM
 have zQp:=@zJo P w K mg base A T
 have zHo:=@zxn P w K mg base A T
 have zvp:=@zBo P w K mg base A T LM
 obtain ⟨zHC,z6v⟩:=T.z2p
 obtain ⟨zMA,zoq⟩:=T.zYj
 have nN:=zSj.nd
 refine T.z7c.F.ok zSj (fun vs H Q E h=>?_) (fun cdv B outer s H vs Q E hr h=>?_)
 ·obtain ⟨L,s,x,p,l,zs,rfl,_⟩:=h
  rfl
 ·obtain ⟨L,s,x,p,l,zs,rfl,rfl,hp,hl,hz,B,I,TI,k⟩:=h
  have hu:=zM hr
  refine ⟨_,(zd (zI (zDb (zyb (zn zBq hr T.zMc (za (pv 1) (za (pv 2) zb))))) (ze (zh (zA (za (zp (v:=.int (-1)) rfl zoq ⟨_,rfl⟩) zb)))) zx)
   (zd (zI (PW.pt (z7p (zC zRw (pv 1) zm (zE _)) (zon (zDb (zyb (zf (pv 0) rfl)))))) (ze (zh (zA (za (zp (v:=.int (-2)) rfl z6v ⟨_,rfl⟩) zb)))) zx)
   (zd (zI (zC zLg (pv 1) zm (zE _)) (ze (zh (zn zHo hr T.zlc (za (pv 0) (za (pv 1) (za (pv 2) zb)))))) zx)
   (zd (zI (zC zLg (pv 1) zm (zE _)) (ze (zh (zn zvp hr T.zDc (za (pv 0) (za (pv 1) (za (pv 2) zb)))))) zx)
   (zd (zI (zC zLg (pv 1) zm (zE _)) (ze (zh (zn zQp hr T.zAc (za (pv 0) (za (pv 1) (za (pv 2) zb)))))) zx)
   (ze (zh (zn z3o hr T.zzc (za (pv 0) (za (pv 1) (za (pv 2) zb))))))))))),?_⟩
  have es:=z6z (s:=s) hp hz
  refine ⟨_,rfl,_,rfl,_,p,l,zs,rfl,rfl,hp,hl,hz,fun H1 s1=>⟨_,rfl,?_⟩⟩
  have B1:=B.same s1
  have k1:=k.same s1
  refine zmb (fun c=>?_) fun c=>?_
  ·have c:¬zz (kinds p) zs=true:=by simpa using c
   rw [if_neg c] at es
   refine ⟨(by show 1≤sizeLine;decide),fun q hq=>?_⟩
   exact k1.ref (zs:=[-1]) es B1 hq
  have ok:zz (kinds p) zs=true:=by simpa using c
  rw [if_pos ok] at es
  obtain ⟨dx,hb⟩:=B1.book
  refine ⟨_,rfl,rfl,_,rfl,?_⟩
  refine zyz (c2:=!s.opened) (fun h=>⟨_,rfl,L.bk,A.zg,dx,_,_,rfl,hb,T.zt,T.zre,z2r _ _ _ _ _ _ _ _ _ _,_,rfl,h⟩) (fun c=>?_) fun c=>?_
  ·rw [Bool.and_eq_true,Bool.not_eq_true',Bool.not_eq_true',decide_eq_false_iff_not,V.int.injEq] at c
   rw [if_pos ⟨c.2,by rw [beq_eq_false_iff_ne];omega⟩] at es
   refine ⟨(by show 1≤sizeLine;decide),fun q hq=>?_⟩
   exact k1.ref (zs:=[-2]) es B1 hq
  have c:¬(s.opened=false∧(p==0)=false):=fun ⟨z1,z2⟩=>by
   rw [beq_eq_false_iff_ne] at z2
   rw [z1,decide_eq_false (fun z=>by injection z with z;omega)] at c
   cases c
  rw [if_neg c] at es
  rw [es] at k1
  have hl1:=s1 _ _ hl
  refine ⟨_,rfl,_,_,rfl,rfl,_,rfl,?_⟩
  refine zmb (fun d=>?_) fun d=>?_
  ·have d:(p:Int)≤5:=of_decide_eq_true d
   exact ⟨_,rfl,_,rfl,_,rfl,L,s,_,p,l,zs,rfl,rfl,by omega,by omega,hl1,hz,ok,B1,I,TI,k1⟩
  have d:¬(p:Int)≤5:=fun z=>d (decide_eq_true z)
  refine ⟨_,rfl,_,_,rfl,rfl,_,rfl,?_⟩
  refine zmb (fun e=>?_) fun e=>?_
  ·have e:(p:Int)≤12:=of_decide_eq_true e
   exact ⟨_,rfl,_,rfl,_,rfl,L,s,_,p,l,zs,rfl,rfl,by omega,by omega,hl1,hz,ok,B1,I,TI,k1⟩
  have e:¬(p:Int)≤12:=fun z=>e (decide_eq_true z)
  refine ⟨_,rfl,_,_,rfl,rfl,_,rfl,?_⟩
  refine zmb (fun f=>?_) fun f=>?_
  ·have f:(p:Int)≤14:=of_decide_eq_true f
   exact ⟨_,rfl,_,rfl,_,rfl,L,s,_,p,l,zs,rfl,rfl,by omega,by omega,hl1,hz,ok,B1,I,TI,k1⟩
  have f:¬(p:Int)≤14:=fun z=>f (decide_eq_true z)
  exact ⟨_,rfl,_,rfl,_,rfl,L,s,_,p,l,zs,rfl,rfl,by omega,by omega,hl1,hz,ok,B1,I,TI,k1⟩
def zXt (A:Adr):Sp:=fun vs H Q _=>∃(p dx:Addr),vs=[.ref p]∧H p=some (.ins A.zg dx [])∧
 ∀(H':Hp) (dl td rl od:Addr),H' p=some (.ins A.zg dx (bf false 0 0 0 0 dl td rl od 0))→H' dl=some (.lst [])→H' td=some (.dT [])→H' rl=some (.lst [])→H' od=some (.dK [])→rl≠dl→H dl=Option.none→H td=Option.none→H rl=Option.none→H od=Option.none→But p H H'→Q .non H'
theorem zEt (T:Txt K mg A):zG P w K mg base CX0 1 A.zij A.zpj ["self"] (zXt A):=by
 have nN:=zOm.nd
 refine T.zeo.ok zOm (fun vs H Q E h=>?_) (fun cdv B outer s H vs Q E hr h=>?_)
 ·obtain ⟨p,dx,rfl,_⟩:=h
  rfl
 ·obtain ⟨p,dx,rfl,hp,k⟩:=h
  have hu:=zM hr
  refine ⟨_,(zd (zdb (pv 0) zYk rfl)
   (zd (zdb (pv 0) zm rfl)
   (zd (zdb (pv 0) zm rfl)
   (zd (zdb (pv 0) zm rfl)
   (zd (zdb (pv 0) zm rfl)
   (zd (zdb (pv 0) (zA zb) rfl)
   (zd (zdb (pv 0) zYy rfl)
   (zd (zdb (pv 0) (zA zb) rfl)
   (zd (zdb (pv 0) zNo rfl)
   (ze (zdb (pv 0) zm rfl))))))))))),?_⟩
  refine ⟨_,rfl,p,A.zg,dx,[],rfl,hp,T.zt,T.zre,(by show 0 < 1000;decide),?_⟩
  refine ⟨_,rfl,p,A.zg,dx,_,rfl,zc,T.zt,T.zrf,(by show 1 < 1000;decide),?_⟩
  refine ⟨_,rfl,p,A.zg,dx,_,rfl,zc,T.zt,T.zuf,(by show 2 < 1000;decide),?_⟩
  refine ⟨_,rfl,p,A.zg,dx,_,rfl,zc,T.zt,T.zgd,(by show 3 < 1000;decide),?_⟩
  refine ⟨_,rfl,p,A.zg,dx,_,rfl,zc,T.zt,T.z4c,(by show 4 < 1000;decide),?_⟩
  have k5:But p H (upd (upd (upd (upd (upd H p (.ins A.zg dx (zr "opened" (.bl false) []))) p (.ins A.zg dx (zr "life" (.int 0) (zr "opened" (.bl false) [])))) p (.ins A.zg dx (zr "window" (.int 0) (zr "life" (.int 0) (zr "opened" (.bl false) []))))) p
    (.ins A.zg dx (zr "now" (.int 0) (zr "window" (.int 0) (zr "life" (.int 0) (zr "opened" (.bl false) [])))))) p (.ins A.zg dx (zr "accounts" (.int 0) (zr "now" (.int 0) (zr "window" (.int 0) (zr "life" (.int 0) (zr "opened" (.bl false) []))))))):=
   (((But.upd.trans But.upd).trans But.upd).trans But.upd).trans But.upd
  have h5:upd (upd (upd (upd (upd H p (.ins A.zg dx (zr "opened" (.bl false) []))) p (.ins A.zg dx (zr "life" (.int 0) (zr "opened" (.bl false) [])))) p (.ins A.zg dx (zr "window" (.int 0) (zr "life" (.int 0) (zr "opened" (.bl false) []))))) p
    (.ins A.zg dx (zr "now" (.int 0) (zr "window" (.int 0) (zr "life" (.int 0) (zr "opened" (.bl false) [])))))) p (.ins A.zg dx (zr "accounts" (.int 0) (zr "now" (.int 0) (zr "window" (.int 0) (zr "life" (.int 0) (zr "opened" (.bl false) [])))))) p=some (.ins A.zg dx (zr "accounts" (.int 0) (zr "now" (.int 0) (zr "window" (.int 0) (zr "life" (.int 0) (zr "opened" (.bl false) [])))))):=zc
  generalize upd (upd (upd (upd (upd H p (.ins A.zg dx (zr "opened" (.bl false) []))) p (.ins A.zg dx (zr "life" (.int 0) (zr "opened" (.bl false) [])))) p (.ins A.zg dx (zr "window" (.int 0) (zr "life" (.int 0) (zr "opened" (.bl false) []))))) p
    (.ins A.zg dx (zr "now" (.int 0) (zr "window" (.int 0) (zr "life" (.int 0) (zr "opened" (.bl false) [])))))) p (.ins A.zg dx (zr "accounts" (.int 0) (zr "now" (.int 0) (zr "window" (.int 0) (zr "life" (.int 0) (zr "opened" (.bl false) []))))))=H5 at k5 h5
  refine ⟨Nat.zero_le _,fun dl hdl=>?_⟩
  obtain ⟨d1,d2,d3⟩:=z6m k5 h5 hdl
  refine ⟨_,rfl,p,A.zg,dx,_,rfl,(zi d1.symm).trans h5,T.zt,T.zqc,(by show 5 < 1000;decide),?_⟩
  obtain ⟨k6,h6,dl6,_⟩:=d3 (.lst []) (.ins A.zg dx (zr "devices" (.ref dl) (zr "accounts" (.int 0) (zr "now" (.int 0) (zr "window" (.int 0) (zr "life" (.int 0) (zr "opened" (.bl false) [])))))))
  generalize upd (upd H5 dl (.lst [])) p (.ins A.zg dx (zr "devices" (.ref dl) (zr "accounts" (.int 0) (zr "now" (.int 0) (zr "window" (.int 0) (zr "life" (.int 0) (zr "opened" (.bl false) [])))))))=H6 at k6 h6 dl6
  intro td htd
  obtain ⟨t1,t2,t3⟩:=z6m k6 h6 htd
  refine ⟨_,rfl,p,A.zg,dx,_,rfl,(zi t1.symm).trans h6,T.zt,T.zfc,(by show 6 < 1000;decide),?_⟩
  obtain ⟨k7,h7,td7,c7⟩:=t3 (.dT []) (.ins A.zg dx (zr "totals" (.ref td) (zr "devices" (.ref dl) (zr "accounts" (.int 0) (zr "now" (.int 0) (zr "window" (.int 0) (zr "life" (.int 0) (zr "opened" (.bl false) []))))))))
  have dl7:=c7 _ _ dl6 d1
  generalize upd (upd H6 td (.dT [])) p (.ins A.zg dx (zr "totals" (.ref td) (zr "devices" (.ref dl) (zr "accounts" (.int 0) (zr "now" (.int 0) (zr "window" (.int 0) (zr "life" (.int 0) (zr "opened" (.bl false) []))))))))=H7 at k7 h7 td7 c7 dl7
  refine ⟨Nat.zero_le _,fun rl hrl=>?_⟩
  obtain ⟨r1,r2,r3⟩:=z6m k7 h7 hrl
  refine ⟨_,rfl,p,A.zg,dx,_,rfl,(zi r1.symm).trans h7,T.zt,T.zR,(by show 7 < 1000;decide),?_⟩
  obtain ⟨k8,h8,rl8,c8⟩:=r3 (.lst []) (.ins A.zg dx (zr "runs" (.ref rl) (zr "totals" (.ref td) (zr "devices" (.ref dl) (zr "accounts" (.int 0) (zr "now" (.int 0) (zr "window" (.int 0) (zr "life" (.int 0) (zr "opened" (.bl false) [])))))))))
  have dl8:=c8 _ _ dl7 d1
  have td8:=c8 _ _ td7 t1
  have ne:rl≠dl:=(zk dl7 hrl).symm
  generalize upd (upd H7 rl (.lst [])) p (.ins A.zg dx (zr "runs" (.ref rl) (zr "totals" (.ref td) (zr "devices" (.ref dl) (zr "accounts" (.int 0) (zr "now" (.int 0) (zr "window" (.int 0) (zr "life" (.int 0) (zr "opened" (.bl false) [])))))))))=H8 at k8 h8 rl8 c8 dl8 td8
  intro od hod
  obtain ⟨o1,o2,o3⟩:=z6m k8 h8 hod
  refine ⟨_,rfl,p,A.zg,dx,_,rfl,(zi o1.symm).trans h8,T.zt,T.zqb,(by show 8 < 1000;decide),?_⟩
  obtain ⟨k9,h9,od9,c9⟩:=o3 (.dK []) (.ins A.zg dx (zr "offers" (.ref od) (zr "runs" (.ref rl) (zr "totals" (.ref td) (zr "devices" (.ref dl) (zr "accounts" (.int 0) (zr "now" (.int 0) (zr "window" (.int 0) (zr "life" (.int 0) (zr "opened" (.bl false) []))))))))))
  have dl9:=c9 _ _ dl8 d1
  have td9:=c9 _ _ td8 t1
  have rl9:=c9 _ _ rl8 r1
  generalize upd (upd H8 od (.dK [])) p (.ins A.zg dx (zr "offers" (.ref od) (zr "runs" (.ref rl) (zr "totals" (.ref td) (zr "devices" (.ref dl) (zr "accounts" (.int 0) (zr "now" (.int 0) (zr "window" (.int 0) (zr "life" (.int 0) (zr "opened" (.bl false) []))))))))))=H9 at k9 h9 od9 c9 dl9 td9 rl9
  refine ⟨_,rfl,p,A.zg,dx,_,rfl,h9,T.zt,T.zWc,(by show 9 < 1000;decide),?_⟩
  exact k _ dl td rl od zc ((zi d1).trans dl9) ((zi t1).trans td9) ((zi r1).trans rl9) ((zi o1).trans od9) ne d2 t2 r2 o2 (k9.trans But.upd)
end
end Pv
namespace Pv
open PySem PySem.Spec PyProof.Rows L2
open Vbemak (Call)
theorem zux {f:Nat} {cs:List (List (List Int))} (h:PyFlat.calls PyVbemak.shape f []=some cs):cs=[]:=by
 cases f<;>(rw [PyFlat.calls] at h;exact (Option.some.inj h).symm)
theorem zXp {H:Hp} {a b c:Addr} {u v:HO} (h:upd (upd H b u) a v c=Option.none):H c=Option.none∧c≠a:=by
 have n1:c≠a:=fun e=>by
  rw [e,zc] at h
  cases h
 rw [zi n1] at h
 have n2:c≠b:=fun e=>by
  rw [e,zc] at h
  cases h
 rw [zi n2] at h
 exact ⟨h,n1⟩
def CA (K:PySem.W.Frag) (A:Adr) (L:Loc) (r:Addr) (H:Hp) (c:Addr) (xs:List V):Prop:=(c∉L.own A∧c≠r∧Rd H c (.lst xs))∨
 ∃(o:Obj) (its:Array Value) (n:Nat),K.lookup c=some o∧o.cls=.type "list"∧o.dict=none∧o.data=.seq its n∧its.size≤sizeLine∧Vals xs its.toList
theorem CA.sq {K:PySem.W.Frag} {A:Adr} {L:Loc} {r:Addr} {H:Hp} {c:Addr} {xs:List V} (h:CA K A L r H c xs):SqL K H c xs:=h.imp (·.2.2) id
theorem zOv {H:Hp} {c:Addr} {u:HO} (h:Rd H c u):∃o,H c=some o∧(o=u∨∃x,o=.frz x u):=by
 rcases h with h|⟨x,h⟩
 ·exact ⟨_,h,.inl rfl⟩
 ·exact ⟨_,h,.inr ⟨x,rfl⟩⟩
theorem CA.keeps {K:PySem.W.Frag} {A:Adr} {L L':Loc} {r:Addr} {H H':Hp} {c:Addr} {xs:List V} (h:CA K A L r H c xs) (k:Keeps A L L' H H'):CA K A L' r H' c xs:=by
 rcases h with ⟨n,m,h⟩|h
 ·left
  obtain ⟨o,e,_⟩:=zOv h
  refine ⟨fun z=>?_,m,?_⟩
  ·rcases k.sub c z with z|z
   ·exact n z
   ·rw [e] at z
    cases z
  ·rcases h with h|⟨x,h⟩
   ·exact .inl (k.keep _ _ h n)
   ·exact .inr ⟨x,k.keep _ _ h n⟩
 ·exact .inr h
theorem CA.but {K:PySem.W.Frag} {A:Adr} {L:Loc} {r:Addr} {H H':Hp} {c:Addr} {xs:List V} (h:CA K A L r H c xs) (k:But r H H'):CA K A L r H' c xs:=by
 rcases h with ⟨m,n,h⟩|h
 ·left
  refine ⟨m,n,?_⟩
  rcases h with h|⟨x,h⟩
  ·exact .inl (k _ _ h n)
  ·exact .inr ⟨x,k _ _ h n⟩
 ·exact .inr h
theorem CA.same {K:PySem.W.Frag} {A:Adr} {L:Loc} {r:Addr} {H H':Hp} {c:Addr} {xs:List V} (h:CA K A L r H c xs) (k:zB H H'):CA K A L r H' c xs:=h.but fun b o e _=>k b o e
section
variable {P:Program} {w:World} {K:PySem.W.Frag} {mg:Str→Option Value} {base:Heap} {A:Adr}
def zzx (K:PySem.W.Frag) (A:Adr):Sp:=fun vs H Q _=>∃(c:Addr) (zs:List Int),vs=[.ref c]∧SqL K H c (zs.map V.int)∧PyVbemak.answers_asked zs=true∧z7q A H∧zWo A H∧
 ∀(H':Hp) (q:Addr),H' q=some (.lst ((PyVbemak.answers zs).map V.int))→z7q A H'→zWo A H'→Q (.ref q) H'
theorem zDw (T:Txt K mg A) (LM:zHj base mg A) (DC:zar P w K A):zG P w K mg base CX0 11 A.znr A.zYl ["calls"] (zzx K A):=by
 have zks:=@zrq P w K mg base A T LM DC
 have zro:=@zDn P w K mg base A T DC
 have zPu:=@zEt P w K mg base A T
 have nN:=zfq.nd
 refine T.z1d.F.ok zfq (fun vs H Q E h=>?_) (fun cdv B outer s H vs Q E hr h=>?_)
 ·obtain ⟨c,zs,rfl,_⟩:=h
  rfl
 ·obtain ⟨c,zs,rfl,hc,has,hT1,hT2,k⟩:=h
  have hu:=zM hr
  refine ⟨_,(zd (zK (i:=1) nN rfl (Or.inl rfl) (zNz T.zDv zPu (hr.mono (by decide)) rfl T.zEy T.zZn .nil zVe))
   (zd (zK (i:=2) nN rfl (Or.inl rfl) (zA zb))
   (zd (zK (i:=3) nN rfl (Or.inl rfl) zm)
   (zd (zjz PassesOwn.never (zC zgn (pv 3) (z5 zxb (by rfl) T.zAd PySem.boot_len (za (pv 0) zb)) (zE _)) (zd (zK (i:=4) nN rfl (Or.inl rfl) (zS zH (pv 0) (pv 3) (fun _ _=>rfl)))
   (zd (zK (i:=5) nN rfl (Or.inl rfl) (zZ zdd (zZ zdd (pv 3) zm) (zn zro hr T.zkc (za (pv 4) zb))))
   (zd (zGv (zK (i:=6) nN rfl (Or.inl rfl) (zn zks hr T.z7c (za (pv 1) (za (pv 4) (za (zFt ztv (pv 0) (zMq (zZ zdd (pv 3) zm)) (zMq (pv 5))) zb))))))
   (zd (z4b (z6f PySem.F.plainAttrs_list PySem.F.slot_list_append PySem.F.type_list_append zSf (pv 2) (za (z5 zxb (by rfl) T.zAd PySem.boot_len (za (pv 6) zb)) zb)))
   (zd (z4b (z6f PySem.F.plainAttrs_list PySem.F.slot_list_extend PySem.F.type_list_extend zTg (pv 2) (za (pv 6) zb)))
   (ze (zK (i:=3) nN rfl (Or.inl rfl) (pv 5)))))))))
   (ze (zh (pv 2))))))),?_⟩
  obtain ⟨cs0,ec,lc⟩:=VM.zvu has
  rw [VM.zgw ec] at k
  intro p dp np ndp nep
  refine ⟨p,dp,rfl,zc,fun H1 dl td rl od hb hdl htd hrl hod ne fdl ftd frl fod k1=>⟨rfl,?_⟩⟩
  have s1:zB H H1:=zld np ndp k1
  have fdl:=zXp fdl
  have ftd:=zXp ftd
  have frl:=zXp frl
  have fod:=zXp fod
  have B1:zw A H1 ⟨p,dl,td,rl,od,[]⟩ Vbemak.start:=⟨⟨dp,hb⟩,hdl,.nil,List.nodup_nil,⟨[],htd,List.Perm.refl _⟩,⟨[],hrl,.nil⟩,ne,⟨[],hod,.nil⟩,hT1.same s1,hT2.same s1⟩
  obtain ⟨tb1,ht1⟩:=zye hT1
  obtain ⟨tb2,ht2⟩:=zye hT2
  refine ⟨Nat.zero_le _,fun r hr=>?_⟩
  have s2:=zq (o:=.lst []) hr
  have B2:=B1.same s2
  have rn:r∉(⟨p,dl,td,rl,od,[]⟩:Loc).own A:=fun z=>by
   unfold Loc.own at z
   simp only [List.mem_cons,List.not_mem_nil,or_false] at z
   obtain ⟨q1,h1⟩:=zye B1.t1
   obtain ⟨q2,h2⟩:=zye B1.t2
   rcases z with z|z|z|z|z|z
   ·exact zk hb hr z.symm
   ·exact zk hdl hr z.symm
   ·exact zk htd hr z.symm
   ·exact zk hod hr z.symm
   ·exact zk h1 hr z.symm
   ·exact zk h2 hr z.symm
  have C2:CA K A ⟨p,dl,td,rl,od,[]⟩ r (upd H1 r (.lst [])) c (zs.map V.int):=by
   rcases hc with h|h
   ·obtain ⟨o,e,ho⟩:=zOv h
    have ncr:c≠r:=zk (s1 _ _ e) hr
    refine .inl ⟨fun z=>?_,ncr,?_⟩
    ·unfold Loc.own at z
     simp only [List.mem_cons,List.not_mem_nil,or_false] at z
     rcases z with z|z|z|z|z|z
     ·exact zk e np z
     ·exact zk e fdl.1 z
     ·exact zk e ftd.1 z
     ·exact zk e fod.1 z
     ·rw [z,ht1] at e
      rcases ho with rfl|⟨x,rfl⟩<;>cases e
     ·rw [z,ht2] at e
      rcases ho with rfl|⟨x,rfl⟩<;>cases e
    ·rcases h with h|⟨x,h⟩
     ·exact .inl (s2 _ _ (s1 _ _ h))
     ·exact .inr ⟨x,s2 _ _ (s1 _ _ h)⟩
   ·exact .inr h
  refine ⟨fun m σ H'=>∃(i:Nat) (L:Loc) (s:Sta) (cs:List (List (List Int))) (f:Nat) (dn:List Int) (v4 v5 v6:Option V),σ=[some (.ref c),some (.ref L.bk),some (.ref r),some (.int (i:Nat)),v4,v5,v6]∧m=zs.length - i∧i≤zs.length∧
   zw A H' L s∧VM.SInv s∧VM.zGe s∧H' r=some (.lst (dn.map V.int))∧r∉L.own A∧r≠L.rl∧CA K A L r H' c (zs.map V.int)∧
   PyFlat.calls PyVbemak.shape f (zs.drop i)=some cs∧dn++VM.zQf s cs=VM.zQf Vbemak.start cs0∧dn.length + 1292 * cs.length≤520000,⟨zs.length,0,⟨p,dl,td,rl,od,[]⟩,Vbemak.start,cs0,zs.length,[],none,none,none,rfl,rfl,Nat.zero_le _,B2,VM.SInv.start,VM.zGe.start,zc,rn,(zk hrl hr).symm,C2,ec,rfl,?_⟩,?_⟩
  ·show 0 + 1292 * cs0.length≤520000
   omega
  rintro m σ H2 ⟨i,L,s,cs,f,dn,v4,v5,v6,rfl,rfl,hi,B,I,TI,hr2,rn,rrl,C,ecs,eans,hlen⟩
  refine ⟨_,rfl,_,rfl,c,_,rfl,.inl C.sq,_,_,rfl,rfl,_,rfl,?_⟩
  rw [List.length_map]
  refine zmb (fun cc=>?_) fun cc=>?_
  ·have cc:(i:Int) < (zs.length:Nat):=of_decide_eq_true cc
   have hlt:i < zs.length:=by omega
   have hd:zs.drop i=zs[i]::zs.drop (i + 1):=List.drop_eq_getElem_cons hlt
   rw [hd] at ecs
   obtain ⟨q0,q23,qn,cs',f',rfl,ecs'⟩:=VM.z7v ecs
   obtain ⟨pl,epl⟩:∃pl:Nat,zs[i]=(pl:Int):=⟨zs[i].toNat,by omega⟩
   have hpl:pl≤23:=by omega
   rw [epl,z5o pl (by omega)] at qn ecs'
   rw [epl] at eans
   rw [z5o pl (by omega)] at eans
   rw [List.length_drop] at qn
   refine ⟨fun σ' H'=>∃(L:Loc) (s:Sta) (cs:List (List (List Int))) (f:Nat) (dn:List Int) (v4 v5 v6:Option V),σ'=[some (.ref c),some (.ref L.bk),some (.ref r),some (.int ((i + 1 + (kinds pl).length:Nat):Int)),v4,v5,v6]∧
    zw A H' L s∧VM.SInv s∧VM.zGe s∧H' r=some (.lst (dn.map V.int))∧r∉L.own A∧r≠L.rl∧CA K A L r H' c (zs.map V.int)∧
    PyFlat.calls PyVbemak.shape f (zs.drop (i + 1 + (kinds pl).length))=some cs∧dn++VM.zQf s cs=VM.zQf Vbemak.start cs0∧dn.length + 1292 * cs.length≤520000,?_,?_⟩
   ·rintro σ' H' ⟨L,s,cs,f,dn,v4,v5,v6,rfl,h1,h2,h3,h4,h5,h6,h7,h8,h9,h10⟩
    exact ⟨zs.length - (i + 1 + (kinds pl).length),by omega,_,L,s,cs,f,dn,v4,v5,v6,rfl,rfl,by omega,h1,h2,h3,h4,h5,h6,h7,h8,h9,h10⟩
   refine ⟨_,rfl,_,rfl,c,_,_,.int (pl:Int),rfl,rfl,C.sq,at_of (j:=i) rfl (by rw [List.getElem?_map,List.getElem?_eq_getElem hlt,epl];rfl),?_⟩
   refine ⟨_,rfl,_,_,rfl,rfl,_,rfl,_,pl,rfl,rfl,hpl,_,_,rfl,rfl,?_⟩
   refine ⟨r,_,hr2,True.intro,fun od=>?_⟩
   have kL:=But.upd (l:=r) (o:=.frz od (.lst (dn.map V.int))) (H:=H2)
   have BL:=B.aside kL rn rrl hr2 z5m (fun _ _ z=>nomatch z)
   have CL:=C.but kL
   have hrL:upd H2 r (.frz od (.lst (dn.map V.int))) r=some (.frz od (.lst (dn.map V.int))):=zc
   generalize upd H2 r (.frz od (.lst (dn.map V.int)))=HL at kL BL CL hrL
   refine ⟨_,rfl,_,rfl,_,rfl,_,rfl,_,_,rfl,rfl,_,rfl,_,rfl,_,rfl,c,_,rfl,CL.sq,fun u hu=>?_⟩
   have zl:((zs.drop (i + 1)).take (kinds pl).length).length=(kinds pl).length:=by
    rw [List.length_take,List.length_drop]
    omega
   have e2:(((i:Nat):Int) + 1 + ((kinds pl).length:Nat))=((i + 1 + (kinds pl).length:Nat):Int):=by omega
   have ecut:z2k (zs.map V.int) (some (((i:Nat):Int) + 1)) (some (((i:Nat):Int) + 1 + ((kinds pl).length:Nat)))=((zs.drop (i + 1)).take (kinds pl).length).map V.int:=by
    rw [e2]
    exact zuA zs (i + 1) _ (by omega)
   rw [ecut]
   generalize (zs.drop (i + 1)).take (kinds pl).length=az at zl eans
   have su:=zq (o:=.lst (az.map V.int)) hu
   obtain ⟨I',TI',al⟩:=z5x (s:=s) hpl zl I TI
   refine ⟨L,s,_,pl,u,az,rfl,rfl,hpl,zc,zl,BL.same su,I,TI,fun H3 L3 q B3 hq3 kp=>?_⟩
   rw [VM.zru] at eans
   generalize Vbemak.stepNumbers s [(pl:Int)::az]=st at eans I' TI' al B3 hq3
   obtain ⟨s',ans⟩:=st
   have hr3:=kp.keep r _ (su _ _ hrL) rn
   refine ⟨hr3,?_⟩
   have rn3:r∉L3.own A:=fun z=>by
    rcases kp.sub r z with z|z
    ·exact rn z
    ·rw [su _ _ hrL] at z
     cases z
   have rrl3:r≠L3.rl:=fun e=>by
    obtain ⟨as,h,_⟩:=B3.runs
    rw [←e,hr3] at h
    cases h
   have kU:=But.upd (l:=r) (o:=.lst (dn.map V.int)) (H:=H3)
   have B4:=B3.aside kU rn3 rrl3 hr3 zyA (fun _ _ z=>nomatch z)
   have C4:=((CL.same su).keeps kp).but kU
   have nq:q≠r:=zP hr3 hq3 (fun z=>nomatch z)
   have hq4:=kU _ _ hq3 nq
   have hr4:upd H3 r (.lst (dn.map V.int)) r=some (.lst (dn.map V.int)):=zc
   generalize upd H3 r (.lst (dn.map V.int))=H4 at kU B4 C4 hq4 hr4
   dsimp only at hq4 eans al B4 I' TI'
   have cl:cs'.length + 1=([(pl:Int)::az]::cs').length:=rfl
   have hlen2:dn.length + 1292 * (cs'.length + 1)≤520000:=hlen
   refine ⟨_,rfl,.inl ⟨rfl,_,SqL.of hr4⟩,_,rfl,q,_,rfl,.inl (SqL.of hq4),?_⟩
   rw [List.length_map]
   refine ⟨r,_,_,rfl,rfl,hr4,by rw [List.length_map];exact Nat.lt_of_le_of_lt (show dn.length≤520000 by omega) (by decide),?_⟩
   have k5:=But.upd (l:=r) (o:=.lst (dn.map V.int++[.int (ans.length:Nat)])) (H:=H4)
   have B5:=B4.aside k5 rn3 rrl3 hr4 z5m (fun _ _ z=>nomatch z)
   have C5:=C4.but k5
   have hq5:=k5 _ _ hq4 nq
   refine ⟨_,rfl,.inl ⟨rfl,_,SqL.of zc⟩,_,rfl,r,q,_,_,rfl,rfl,zc,hq5,?_,?_⟩
   ·rw [List.length_append,List.length_map,List.length_map]
    exact Nat.le_trans (show dn.length + 1 + ans.length≤600000 by omega) (by decide)
   have k6:=But.upd (l:=r) (o:=.lst (dn.map V.int++[.int (ans.length:Nat)]++ans.map V.int)) (H:=upd H4 r (.lst (dn.map V.int++[.int (ans.length:Nat)])))
   have B6:=B5.aside k6 rn3 rrl3 zc z5m (fun _ _ z=>nomatch z)
   have C6:=C5.but k6
   refine ⟨_,rfl,L3,s',cs',f',dn++((ans.length:Int)::ans),some (.int (pl:Int)),some (.int (((i:Nat):Int) + 1 + ((kinds pl).length:Nat))),some (.ref q),?_,B6,I',TI',?_,rn3,rrl3,C6,?_,?_,?_⟩
   ·rw [←e2,kp.bk]
    rfl
   ·rw [zc,List.map_append,List.append_assoc]
    rfl
   ·rw [List.drop_drop] at ecs'
    exact ecs'
   ·rw [←eans,List.append_assoc]
   ·rw [List.length_append,List.length_cons]
    omega
  ·have cc:¬(i:Int) < (zs.length:Nat):=fun z=>cc (decide_eq_true z)
   have ei:i=zs.length:=by omega
   rw [ei,List.drop_length] at ecs
   have e:=zux ecs
   subst e
   have ed:dn=VM.zQf Vbemak.start cs0:=by
    rw [←eans]
    exact (List.append_nil _).symm
   rw [ed] at hr2
   exact ⟨_,rfl,k H2 r hr2 B.t1 B.t2⟩
end
end Pv
section
namespace L2
open PySem PySem.Spec PyProof.Rows
open PySem.W (WData Codec OpenSpec Well WellAll ReadsW ReadsAllW)
mutual
inductive Dw (K:PySem.W.Frag) (H:Hp):V→WData→Prop
 |non:Dw K H .non .none
 |bl (b:Bool):Dw K H (.bl b) (.bool b)
 |int (i:Int):Dw K H (.int i) (.int i)
 |str (x:Str):Dw K H (.str x) (.str x)
 |byt (b:Array UInt8):Dw K H (.byt b) (.bytes b.toList)
 |lst {a:Addr} {xs:List V} {ds:List WData}:SqL K H a xs→zwf K H xs ds→Dw K H (.ref a) (.list ds)
 |tup {a:Addr} {xs:List V} {ds:List WData}:SqT K H a xs→zwf K H xs ds→Dw K H (.ref a) (.tuple ds)
inductive zwf (K:PySem.W.Frag) (H:Hp):List V→List WData→Prop
 |nil:zwf K H [] []
 |cons {v:V} {vs:List V} {d:WData} {ds:List WData}:Dw K H v d→zwf K H vs ds→zwf K H (v::vs) (d::ds)
end
theorem zuv {K:PySem.W.Frag} {H:Hp}:∀ns:List Int,zwf K H (ns.map V.int) (ns.map WData.int)
 |[]=>.nil
 |n::r=>.cons (.int n) (zuv r)
theorem zVv {K:PySem.W.Frag} {H:Hp}:∀(ns:List Int) (xs:List V),zwf K H xs (ns.map WData.int)→xs=ns.map V.int
 |[],xs,h=>by
  cases h
  rfl
 |n::r,xs,h=>by
  cases h with
  |cons h1 h2=>
   cases h1
   rw [zVv r _ h2]<;>rfl
section
variable {P:Program} {w:World} {K:PySem.W.Frag} {H:Hp} {h:Heap} {R:PySem.W.WRecords} {cl:Str→Option Addr}
theorem zcB {a:Addr} {xs:List V} (hok:HOk P w H h) (KX:K.In h) (q:SqL K H a xs):∃(its:List Value) (o:Obj) (n:Nat),Vals xs its∧h.get? a=some o∧o.cls=.type "list"∧o.data=.seq its.toArray n:=by
 rcases q with q|⟨o,its,n,e,hc,_,hd,_,hv⟩
 ·obtain ⟨_,its,n,hv,e⟩:=(show zzb P w H h a (.lst xs) from q.ok hok)
  exact ⟨its,_,n,hv,e,rfl,rfl⟩
 ·exact ⟨its.toList,o,n,hv,KX _ _ e,hc,by simp [hd]⟩
theorem zzB {a:Addr} {xs:List V} (hok:HOk P w H h) (KX:K.In h) (q:SqT K H a xs):∃(its:List Value) (o:Obj) (n:Nat),Vals xs its∧h.get? a=some o∧o.cls=.type "tuple"∧o.data=.seq its.toArray n:=by
 rcases q with q|⟨o,its,n,e,hc,hd,_,hv⟩
 ·obtain ⟨_,its,hv,o,e,hc,n,hd⟩:=(show zzb P w H h a (.tup xs) from q.ok hok)
  exact ⟨its,o,n,hv,e,hc,hd⟩
 ·exact ⟨its.toList,o,n,hv,KX _ _ e,hc,by simp [hd]⟩
mutual
theorem Dw.reads (hok:HOk P w H h) (KX:K.In h):∀(d:WData) (v:V) (u:Value),Dw K H v d→RelV v u→∃as,ReadsW R cl h u d as
 |.none,_,_,x,r=>by
  cases x
  cases r
  exact ⟨_,ReadsW.none⟩
 |.bool b,_,_,x,r=>by
  cases x
  cases r
  exact ⟨_,ReadsW.bool b⟩
 |.int i,_,_,x,r=>by
  cases x
  obtain ⟨t,rfl⟩:=r
  exact ⟨_,ReadsW.int i t⟩
 |.str s,_,_,x,r=>by
  cases x
  obtain ⟨t,rfl⟩:=r
  exact ⟨_,ReadsW.str s t⟩
 |.bytes b,_,_,x,r=>by
  cases x
  obtain ⟨t,rfl⟩:=r
  exact ⟨_,ReadsW.bytes _ t⟩
 |.list ds,_,_,x,r=>by
  cases x with
  |lst hs ha=>
   cases r
   obtain ⟨its,o,n,rv,ho,hc,hd⟩:=zcB hok KX hs
   obtain ⟨as,hr⟩:=Dw.readsAll hok KX ds _ its ha rv
   exact ⟨_,ReadsW.list ho hc hd hr⟩
 |.tuple ds,_,_,x,r=>by
  cases x with
  |tup hs ha=>
   cases r
   obtain ⟨its,o,n,rv,ho,hc,hd⟩:=zzB hok KX hs
   obtain ⟨as,hr⟩:=Dw.readsAll hok KX ds _ its ha rv
   exact ⟨_,ReadsW.tuple ho hc hd hr⟩
 |.float _,_,_,x,_=>by cases x
 |.dict _,_,_,x,_=>by cases x
 |.bytearray _,_,_,x,_=>by cases x
 |.set _,_,_,x,_=>by cases x
 |.frozenset _,_,_,x,_=>by cases x
 |.obj _ _,_,_,x,_=>by cases x
theorem Dw.readsAll (hok:HOk P w H h) (KX:K.In h):∀(ds:List WData) (vs:List V) (us:List Value),zwf K H vs ds→Vals vs us→∃as,ReadsAllW R cl h us ds as
 |[],_,_,x,r=>by
  cases x
  cases r
  exact ⟨_,ReadsAllW.nil⟩
 |d::ds,_,_,x,r=>by
  cases x with
  |cons h1 h2=>
   cases r with
   |cons r1 r2=>
    obtain ⟨as,q1⟩:=Dw.reads hok KX d _ _ h1 r1
    obtain ⟨bs,q2⟩:=Dw.readsAll hok KX ds _ _ h2 r2
    exact ⟨_,ReadsAllW.cons q1 q2⟩
end
end
mutual
def plW:WData→Bool
 |.none=>true
 |.bool _=>true
 |.int _=>true
 |.str _=>true
 |.bytes _=>true
 |.list xs=>zkh xs
 |.tuple xs=>zkh xs
 |_=>false
def zkh:List WData→Bool
 |[]=>true
 |x::r=>plW x&&zkh r
end
theorem zVs {α:Type} {f:α→WData} (h:∀a,plW (f a)=true):∀l:List α,zkh (l.map f)=true
 |[]=>rfl
 |x::r=>by
  show (plW (f x)&&zkh (r.map f))=true
  rw [h x,zVs h r]<;>rfl
theorem zPg:∀(c:Codec) (a:c.denote),plW (c.enc a)=true
 |.unit,_=>rfl
 |.bool,_=>rfl
 |.int _ _,_=>rfl
 |.nat _ _,_=>rfl
 |.u8,_=>rfl
 |.bytes _ _,_=>rfl
 |.text _ _ _ _,_=>rfl
 |.list _ _ c,a=>zVs (fun x=>zPg c x) a
 |.pair c d,a=>by
  show (plW (c.enc a.1)&&(plW (d.enc a.2)&&true))=true
  rw [zPg c a.1,zPg d a.2]<;>rfl
 |.triple c d e,a=>by
  show (plW (c.enc a.1)&&(plW (d.enc a.2.1)&&(plW (e.enc a.2.2)&&true)))=true
  rw [zPg c a.1,zPg d a.2.1,zPg e a.2.2]<;>rfl
 |.option c,none=>rfl
 |.option c,some x=>zPg c x
theorem z3r:∀(cs:List Codec) (a:Codec.denoteAll cs),zkh (Codec.encAll cs a)=true
 |[],_=>rfl
 |c::cs,a=>by
  show (plW (c.enc a.1)&&zkh (Codec.encAll cs a.2))=true
  rw [zPg c a.1,z3r cs a.2]<;>rfl
theorem z0k:∀{xs:List WData} {d:WData},d∈xs→d.weight≤WData.weightAll xs
 |[],d,h=>absurd h (by simp)
 |x::r,d,h=>by
  show d.weight≤x.weight + 1 + WData.weightAll r
  rcases List.mem_cons.mp h with e|m
  ·rw [e]
   omega
  ·have z:=z0k m
   omega
def toV:Value→V
 |.none=>.non
 |.bool b=>.bl b
 |.int i _=>.int i
 |.str x _=>.str x
 |.bytes b _=>.byt b
 |.ref a=>.ref a
 |_=>.non
def OkU (A:List Addr):Value→Prop
 |.none=>True
 |.bool _=>True
 |.int _ _=>True
 |.str _ _=>True
 |.bytes _ _=>True
 |.ref a=>a∈A
 |_=>False
theorem OkU.mono {A B:List Addr} (h:∀a∈A,a∈B):∀{u:Value},OkU A u→OkU B u:=fun {u} x=>by
 cases u with
 |ref a=>exact h a x
 |none=>trivial
 |bool b=>trivial
 |int i t=>trivial
 |str s t=>trivial
 |bytes b t=>trivial
 |_=>exact False.elim x
theorem zVz {A:List Addr} {u:Value} (x:OkU A u):RelV (toV u) u:=by
 cases u with
 |ref a=>rfl
 |none=>rfl
 |bool b=>rfl
 |int i t=>exact ⟨t,rfl⟩
 |str s t=>exact ⟨t,rfl⟩
 |bytes b t=>exact ⟨t,rfl⟩
 |_=>exact False.elim x
theorem zwe {A:List Addr}:∀{vs:List Value},(∀u∈vs,OkU A u)→Vals (vs.map toV) vs
 |[],_=>.nil
 |u::r,h=>.cons (zVz (h u (List.mem_cons_self ..))) (zwe fun x hx=>h x (List.mem_cons_of_mem _ hx))
def zvf (h:Heap) (A:List Addr) (a:Addr):Prop:=∃vs:List Value,vs.length≤sizeLine∧(∀u∈vs,OkU A u)∧
 (h.get? a=some { cls:=.type "list",data:=.seq vs.toArray }∨h.get? a=some { cls:=.type "tuple",data:=.seq vs.toArray })
theorem zvf.mono {h:Heap} {A B:List Addr} {a:Addr} (k:∀a∈A,a∈B) (x:zvf h A a):zvf h B a:=by
 obtain ⟨vs,h1,h2,h3⟩:=x
 exact ⟨vs,h1,fun u hu=>(h2 u hu).mono k,h3⟩
theorem zHg {P:Params} {h:Heap}:∀{vs:List Value} {ds:List WData},WellAll P h vs ds→vs.length=ds.length
 |_,_,.nil=>rfl
 |_,_,.cons _ b=>by
  show _ + 1=_ + 1
  rw [zHg b]
theorem zwr {P:Params} {h:Heap} {v:Value} {ds:List WData} (x:Well P h v (.list ds)):∃(a:Addr) (vs:List Value),v=.ref a∧h.get? a=some { cls:=.type "list",data:=.seq vs.toArray }∧WellAll P h vs ds:=by
 cases x with
 |list ho hall=>exact ⟨_,_,rfl,ho,hall⟩
theorem zCp {P:Params} {h:Heap} {v:Value} {ds:List WData} (x:Well P h v (.tuple ds)):∃(a:Addr) (vs:List Value),v=.ref a∧h.get? a=some { cls:=.type "tuple",data:=.seq vs.toArray }∧WellAll P h vs ds:=by
 cases x with
 |tuple ho hall=>exact ⟨_,_,rfl,ho,hall⟩
theorem zjr {P:Params} {h:Heap} {us:List Value} {d:WData} {ds:List WData} (x:WellAll P h us (d::ds)):∃(v:Value) (vs:List Value),us=v::vs∧Well P h v d∧WellAll P h vs ds:=by
 cases x with
 |cons a b=>exact ⟨_,_,rfl,a,b⟩
theorem znv {n:Nat} (h:n≤1048576):n≤sizeLine:=Nat.le_trans h (by decide)
section
variable {P:Params} {h:Heap}
mutual
theorem zDz:∀(d:WData) (v:Value),Well P h v d→plW d=true→d.weight≤1048576→∃A:List Addr,OkU A v∧∀a∈A,zvf h A a
 |.none,_,x,_,_=>by
  cases x
  exact ⟨[],trivial,fun a m=>absurd m (by simp)⟩
 |.bool b,_,x,_,_=>by
  cases x
  exact ⟨[],trivial,fun a m=>absurd m (by simp)⟩
 |.int i,_,x,_,_=>by
  cases x
  exact ⟨[],trivial,fun a m=>absurd m (by simp)⟩
 |.str s,_,x,_,_=>by
  cases x
  exact ⟨[],trivial,fun a m=>absurd m (by simp)⟩
 |.bytes b,_,x,_,_=>by
  cases x
  exact ⟨[],trivial,fun a m=>absurd m (by simp)⟩
 |.list ds,_,x,p,z=>by
  obtain ⟨a,vs,rfl,ho,hall⟩:=zwr x
  have z2:WData.weightAll ds≤1048576:=z
  obtain ⟨A,h1,h2⟩:=zqk ds _ hall p fun d hd=>Nat.le_trans (z0k hd) z2
  have k:∀b∈A,b∈a::A:=fun b hb=>List.mem_cons_of_mem _ hb
  refine ⟨a::A,List.mem_cons_self ..,fun b hb=>?_⟩
  rcases List.mem_cons.mp hb with e|m
  ·rw [e]
   exact ⟨vs,znv (by rw [zHg hall];exact Nat.le_trans (PySem.W.length_le_weightAllW ds) z2),fun u hu=>(h1 u hu).mono k,.inl ho⟩
  ·exact (h2 b m).mono k
 |.tuple ds,_,x,p,z=>by
  obtain ⟨a,vs,rfl,ho,hall⟩:=zCp x
  have z2:WData.weightAll ds≤1048576:=z
  obtain ⟨A,h1,h2⟩:=zqk ds _ hall p fun d hd=>Nat.le_trans (z0k hd) z2
  have k:∀b∈A,b∈a::A:=fun b hb=>List.mem_cons_of_mem _ hb
  refine ⟨a::A,List.mem_cons_self ..,fun b hb=>?_⟩
  rcases List.mem_cons.mp hb with e|m
  ·rw [e]
   exact ⟨vs,znv (by rw [zHg hall];exact Nat.le_trans (PySem.W.length_le_weightAllW ds) z2),fun u hu=>(h1 u hu).mono k,.inr ho⟩
  ·exact (h2 b m).mono k
 |.float _,_,_,p,_=>Bool.noConfusion (show false=true from p)
 |.dict _,_,_,p,_=>Bool.noConfusion (show false=true from p)
 |.bytearray _,_,_,p,_=>Bool.noConfusion (show false=true from p)
 |.set _,_,_,p,_=>Bool.noConfusion (show false=true from p)
 |.frozenset _,_,_,p,_=>Bool.noConfusion (show false=true from p)
 |.obj _ _,_,_,p,_=>Bool.noConfusion (show false=true from p)
theorem zqk:∀(ds:List WData) (vs:List Value),WellAll P h vs ds→zkh ds=true→(∀d∈ds,d.weight≤1048576)→∃A:List Addr,(∀u∈vs,OkU A u)∧∀a∈A,zvf h A a
 |[],_,x,_,_=>by
  cases x
  exact ⟨[],fun u m=>absurd m (by simp),fun a m=>absurd m (by simp)⟩
 |d::ds,_,x,p,z=>by
  obtain ⟨v,vs,rfl,x1,x2⟩:=zjr x
  have q:plW d=true∧zkh ds=true:=Bool.and_eq_true_iff.mp p
  obtain ⟨A,a1,a2⟩:=zDz d v x1 q.1 (z d (List.mem_cons_self ..))
  obtain ⟨B,b1,b2⟩:=zqk ds vs x2 q.2 fun e he=>z e (List.mem_cons_of_mem _ he)
  have kA:∀b∈A,b∈A++B:=fun b hb=>List.mem_append.mpr (.inl hb)
  have kB:∀b∈B,b∈A++B:=fun b hb=>List.mem_append.mpr (.inr hb)
  refine ⟨A++B,fun u hu=>?_,fun b hb=>?_⟩
  ·rcases List.mem_cons.mp hu with e|m
   ·rw [e]
    exact a1.mono kA
   ·exact (b1 u m).mono kB
  ·rcases List.mem_append.mp hb with m|m
   ·exact (a2 b m).mono kA
   ·exact (b2 b m).mono kB
end
end
def zHw (o:Obj):Option HO:=match o.data with
 |.seq vs _=>if (o.cls==Value.type "list")=true then some (.frz o (.lst (vs.toList.map toV))) else some (.frz o (.tup (vs.toList.map toV)))
 |_=>none
def zyc (K:PySem.W.Frag) (h:Heap) (A:List Addr):Hp:=fun b=>if b∈A then (if (K.lookup b).isNone=true then (h.get? b).bind zHw else none) else none
def z7z (H:Hp):Prop:=∀b,H b=none∨∃o u,H b=some (.frz o u)
theorem zPt (vs:List Value):zHw { cls:=.type "list",data:=.seq vs.toArray }=some (.frz { cls:=.type "list",data:=.seq vs.toArray } (.lst (vs.map toV))):=by
 show (if (Value.type "list"==Value.type "list")=true then some (HO.frz { cls:=.type "list",data:=.seq vs.toArray } (.lst (vs.toArray.toList.map toV))) else some (HO.frz { cls:=.type "list",data:=.seq vs.toArray } (.tup (vs.toArray.toList.map toV))))=_
 rw [if_pos (beq_self_eq_true _)]
theorem zXs (vs:List Value):zHw { cls:=.type "tuple",data:=.seq vs.toArray }=some (.frz { cls:=.type "tuple",data:=.seq vs.toArray } (.tup (vs.map toV))):=by
 show (if (Value.type "tuple"==Value.type "list")=true then some (HO.frz { cls:=.type "tuple",data:=.seq vs.toArray } (.lst (vs.toArray.toList.map toV))) else some (HO.frz { cls:=.type "tuple",data:=.seq vs.toArray } (.tup (vs.toArray.toList.map toV))))=_
 rw [if_neg (by decide)]
section
variable {P:Program} {w:World} {K:PySem.W.Frag} {h:Heap} {A:List Addr}
theorem z0m {b:Addr} {o:Obj} (hb:b∈A) (hk:K.lookup b=none) (e:h.get? b=some o):zyc K h A b=zHw o:=by
 unfold zyc
 rw [if_pos hb,hk,if_pos (show (none:Option Obj).isNone=true from rfl),e]<;>rfl
theorem zqA {b:Addr} {u:HO} (q:zyc K h A b=some u):b∈A∧K.lookup b=none:=by
 unfold zyc at q
 by_cases hb:b∈A
 ·rw [if_pos hb] at q
  cases hk:K.lookup b with
  |none=>exact ⟨hb,rfl⟩
  |some o=>
   rw [hk,if_neg (by simp)] at q
   cases q
 ·rw [if_neg hb] at q
  cases q
theorem z4j (ar:∀a∈A,zvf h A a) {b:Addr} {u:HO} (q:zyc K h A b=some u):K.lookup b=none∧∃vs:List Value,vs.length≤sizeLine∧(∀u∈vs,OkU A u)∧
  ((h.get? b=some { cls:=.type "list",data:=.seq vs.toArray }∧u=.frz { cls:=.type "list",data:=.seq vs.toArray } (.lst (vs.map toV)))∨
   (h.get? b=some { cls:=.type "tuple",data:=.seq vs.toArray }∧u=.frz { cls:=.type "tuple",data:=.seq vs.toArray } (.tup (vs.map toV)))):=by
 obtain ⟨hb,hk⟩:=zqA q
 obtain ⟨vs,h1,h2,h3⟩:=ar b hb
 refine ⟨hk,vs,h1,h2,?_⟩
 rcases h3 with e|e
 ·rw [z0m hb hk e,zPt] at q
  exact .inl ⟨e,(Option.some.inj q).symm⟩
 ·rw [z0m hb hk e,zXs] at q
  exact .inr ⟨e,(Option.some.inj q).symm⟩
theorem zSx (ar:∀a∈A,zvf h A a):z7z (zyc K h A):=fun b=>by
 cases q:zyc K h A b with
 |none=>exact .inl rfl
 |some u=>
  obtain ⟨_,vs,_,_,⟨_,e⟩|⟨_,e⟩⟩:=z4j ar q
  ·exact .inr ⟨_,_,by rw [e]⟩
  ·exact .inr ⟨_,_,by rw [e]⟩
theorem zxA (ar:∀a∈A,zvf h A a):HOk P w (zyc K h A) h:=fun b u q=>by
 obtain ⟨_,vs,h1,h2,⟨e,rfl⟩|⟨e,rfl⟩⟩:=z4j ar q
 ·exact ⟨e,by rw [List.length_map];exact h1,vs,_,zwe h2,e⟩
 ·exact ⟨e,by rw [List.length_map];exact h1,vs,zwe h2,_,e,rfl,_,rfl⟩
theorem zln {c c':Value} {vs us:List Value} (e:(some { cls:=c,data:=.seq vs.toArray }:Option Obj)=some { cls:=c',data:=.seq us.toArray }):c=c'∧vs=us:=by
 have e1:=Option.some.inj e
 have e2:c=c':=congrArg Obj.cls e1
 have e3:Data.seq vs.toArray=Data.seq us.toArray:=congrArg Obj.data e1
 injection e3 with e4
 refine ⟨e2,?_⟩
 have e5:=congrArg Array.toList e4
 simpa using e5
theorem zTC (KX:K.In h) (ar:∀a∈A,zvf h A a) {a:Addr} {vs:List Value} (ha:a∈A) (e:h.get? a=some { cls:=.type "list",data:=.seq vs.toArray }):(∀u∈vs,OkU A u)∧SqL K (zyc K h A) a (vs.map toV):=by
 obtain ⟨us,h1,h2,h3⟩:=ar a ha
 have hu:us=vs:=by
  rcases h3 with q|q
  ·rw [e] at q
   exact (zln q).2.symm
  ·rw [e] at q
   exact absurd (Value.type.inj (zln q).1) (by decide)
 subst hu
 refine ⟨h2,?_⟩
 cases hk:K.lookup a with
 |none=>exact .inl (.inr ⟨_,by rw [z0m ha hk e,zPt]⟩)
 |some o=>
  have e2:=KX a o hk
  rw [e] at e2
  obtain rfl:=Option.some.inj e2
  exact .inr ⟨_,us.toArray,_,hk,rfl,rfl,rfl,by rw [List.size_toArray];exact h1,by simpa using zwe h2⟩
theorem zUC (KX:K.In h) (ar:∀a∈A,zvf h A a) {a:Addr} {vs:List Value} (ha:a∈A) (e:h.get? a=some { cls:=.type "tuple",data:=.seq vs.toArray }):(∀u∈vs,OkU A u)∧SqT K (zyc K h A) a (vs.map toV):=by
 obtain ⟨us,h1,h2,h3⟩:=ar a ha
 have hu:us=vs:=by
  rcases h3 with q|q
  ·rw [e] at q
   exact absurd (Value.type.inj (zln q).1) (by decide)
  ·rw [e] at q
   exact (zln q).2.symm
 subst hu
 refine ⟨h2,?_⟩
 cases hk:K.lookup a with
 |none=>exact .inl (.inr ⟨_,by rw [z0m ha hk e,zXs]⟩)
 |some o=>
  have e2:=KX a o hk
  rw [e] at e2
  obtain rfl:=Option.some.inj e2
  exact .inr ⟨_,us.toArray,_,hk,rfl,rfl,by rw [List.size_toArray];exact h1,by simpa using zwe h2⟩
mutual
theorem zlB {Pm:Params} (KX:K.In h) (ar:∀a∈A,zvf h A a):∀(d:WData) (v:Value),Well Pm h v d→plW d=true→OkU A v→Dw K (zyc K h A) (toV v) d
 |.none,_,x,_,_=>by
  cases x
  exact .non
 |.bool b,_,x,_,_=>by
  cases x
  exact .bl b
 |.int i,_,x,_,_=>by
  cases x
  exact .int i
 |.str s,_,x,_,_=>by
  cases x
  exact .str s
 |.bytes b,_,x,_,_=>by
  cases x
  have z:=Dw.byt (K:=K) (H:=zyc K h A) b.toArray
  exact z
 |.list ds,_,x,p,hu=>by
  obtain ⟨a,vs,rfl,ho,hall⟩:=zwr x
  obtain ⟨h2,hs⟩:=zTC KX ar hu ho
  exact .lst hs (zzp KX ar ds _ hall p h2)
 |.tuple ds,_,x,p,hu=>by
  obtain ⟨a,vs,rfl,ho,hall⟩:=zCp x
  obtain ⟨h2,hs⟩:=zUC KX ar hu ho
  exact .tup hs (zzp KX ar ds _ hall p h2)
 |.float _,_,_,p,_=>Bool.noConfusion (show false=true from p)
 |.dict _,_,_,p,_=>Bool.noConfusion (show false=true from p)
 |.bytearray _,_,_,p,_=>Bool.noConfusion (show false=true from p)
 |.set _,_,_,p,_=>Bool.noConfusion (show false=true from p)
 |.frozenset _,_,_,p,_=>Bool.noConfusion (show false=true from p)
 |.obj _ _,_,_,p,_=>Bool.noConfusion (show false=true from p)
theorem zzp {Pm:Params} (KX:K.In h) (ar:∀a∈A,zvf h A a):∀(ds:List WData) (vs:List Value),WellAll Pm h vs ds→zkh ds=true→(∀u∈vs,OkU A u)→zwf K (zyc K h A) (vs.map toV) ds
 |[],_,x,_,_=>by
  cases x
  exact .nil
 |d::ds,_,x,p,hu=>by
  obtain ⟨v,vs,rfl,x1,x2⟩:=zjr x
  have q:plW d=true∧zkh ds=true:=Bool.and_eq_true_iff.mp p
  exact .cons (zlB KX ar d v x1 q.1 (hu _ (List.mem_cons_self ..))) (zzp KX ar ds vs x2 q.2 fun u m=>hu u (List.mem_cons_of_mem _ m))
end
end
theorem z3q {ds:List WData} (h:WData.layableAll ds=true):∀d∈ds,d.weight≤1048576:=fun d hd=>
 (PySem.W.layableW_iff.mp (List.all_eq_true.mp h d hd)).2.2
theorem zgq:∀(cs:List Codec) (a:Codec.denoteAll cs),(Codec.encAll cs a).length=cs.length
 |[],_=>rfl
 |c::cs,a=>by
  show (Codec.encAll cs a.2).length + 1=cs.length + 1
  rw [zgq cs a.2]
end L2
end
namespace L2
open PySem PySem.Spec PyProof.Rows
open PySem.W (WData Codec OpenSpec Well WellAll ReadsW ReadsAllW CodeHd)
abbrev z3m:Obj:={ cls:=.none,data:=.fields #[] }
def zhh (H:Hp) (ts:List (Addr×Addr)):Hp:=fun b=>if b∈ts.map (·.2) then some (.tbl #[]) else H b
theorem zSA {H:Hp} {ts:List (Addr×Addr)} {q:Addr×Addr} (h:q∈ts):zhh H ts q.2=some (.tbl #[]):=if_pos (List.mem_map.mpr ⟨q,h,rfl⟩)
theorem zMo {H:Hp} {ts:List (Addr×Addr)} {b:Addr} (h:b∉ts.map (·.2)):zhh H ts b=H b:=if_neg h
def zdt (h:Heap) (mg:Str→Option Value):Prop:=∃bm ob,mg "__builtins__"=some (.ref bm)∧bm≠builtinsNs∧h.get? bm=some ob∧ob.cls=.type "module"∧ob.dict=some builtinsNs∧ob.data=.plain
theorem zyw {P:Program} {w:World} {K:PySem.W.Frag} {mg mb:Str→Option Value} {CX:CXT} {k:Nat} {fa:Addr} {fd:FuncData} {ps:List Str} {sp:Sp} {s₁:Shared} {vals:List Value} {ds:List WData} {R:PySem.W.WRecords} {cl:Str→Option Addr} {d0:WData} {ts:List (Addr×Addr)}
  (KX:K.In s₁.heap) (hns:s₁.heap.Ns mainGlobals mg) (hb:s₁.heap.Ns builtinsNs mb) (hbb:∀x:Str,x≠"__name__"→mb x=bootBuiltins x) (hlim:s₁.heap.NoLimit) (hg:s₁.gens=#[])
  (hT:∀q∈ts,CodeHd s₁.heap q.1 q.2∧s₁.heap.get? q.2=some z3m) (hno:PySem.W.noTabs K=true) (hbm:zdt s₁.heap mg)
  (hwl:WellAll w.params s₁.heap vals ds) (hpl:zkh ds=true) (hwt:∀d∈ds,d.weight≤1048576) (hr:zhc k callerA)
  (F:∀base:Heap,K.In base→base.Ns mainGlobals mg→zdt base mg→(∀q∈ts,CodeHd base q.1 q.2)→zG P w K mg base CX k fa fd ps sp) (hbind:∀(s:Shared) (us:List Value),us.length=ps.length→BindsTo s fd ⟨us,[]⟩ (ps.zip us)) (hlen:ds.length=ps.length)
  (hsp:∀(H0 H:Hp) (xs:List V),(∀b o,H0 b=some o→H b=some o)→(∀q∈ts,H q.2=some (.tbl #[]))→zwf K H0 xs ds→sp xs H (fun v H'=>Dw K H' v d0) fun _ _ _=>False)
  (hCX:∀H e s',CX [] H s₁ (fun _ _ _=>False) e s'→False):
  codeAny (model P w) callerA (.call (.ref fa) ⟨vals,[]⟩) (fun r s'=>∃u as,r=.ok (.ret u)∧ReadsW R cl s'.heap u d0 as∧OldK s₁.heap s'.heap∧s'.os=s₁.os∧AllBare s'.gens) s₁:=by
 obtain ⟨A,ho,ar⟩:=zqk ds vals hwl hpl hwt
 have hO:z7z (zyc K s₁.heap A):=zSx ar
 have hok0:HOk P w (zyc K s₁.heap A) s₁.heap:=zxA ar
 have hS:=zzp KX ar ds vals hwl hpl ho
 have hV:=zwe ho
 have tabAt:∀b∈ts.map (·.2),s₁.heap.get? b=some z3m:=fun b hb=>by
  obtain ⟨q,hq,rfl⟩:=List.mem_map.mp hb
  exact (hT q hq).2
 have argD:∀{b:Addr} {u:HO},zyc K s₁.heap A b=some u→∃(o:Obj) (vs:Array Value),s₁.heap.get? b=some o∧o.data=.seq vs∧(∃ob u',u=.frz ob u'):=fun {b u} q=>by
  obtain ⟨_,vs,_,_,⟨e,e'⟩|⟨e,e'⟩⟩:=z4j ar q
  ·exact ⟨_,_,e,rfl,_,_,e'⟩
  ·exact ⟨_,_,e,rfl,_,_,e'⟩
 have notT:∀{b:Addr} {o:Obj},s₁.heap.get? b=some o→(∀vs,o.cls=.none→o.data=.fields vs→False)→b∉ts.map (·.2):=fun {b o} e n hb=>by
  have:=tabAt b hb
  rw [e] at this
  cases this
  exact n _ rfl rfl
 have ext:∀b o,zyc K s₁.heap A b=some o→zhh (zyc K s₁.heap A) ts b=some o:=fun b o e=>by
  obtain ⟨ob,vs,e1,e2,_⟩:=argD e
  rw [zMo (notT e1 (fun _ _ z=>by rw [e2] at z;cases z))]
  exact e
 have hTab:∀q∈ts,zhh (zyc K s₁.heap A) ts q.2=some (.tbl #[]):=fun q hq=>zSA hq
 have cases_H:∀b u,zhh (zyc K s₁.heap A) ts b=some u→(b∈ts.map (·.2)∧u=.tbl #[])∨(b∉ts.map (·.2)∧zyc K s₁.heap A b=some u):=fun b u q=>by
  by_cases hb:b∈ts.map (·.2)
  ·unfold zhh at q
   rw [if_pos hb] at q
   exact .inl ⟨hb,(Option.some.inj q).symm⟩
  ·rw [zMo hb] at q
   exact .inr ⟨hb,q⟩
 have hok:HOk P w (zhh (zyc K s₁.heap A) ts) s₁.heap:=fun b u q=>by
  rcases cases_H b u q with ⟨hb,rfl⟩|⟨hb,e⟩
  ·exact tabAt b hb
  ·obtain ⟨_,vs,h1,h2,⟨e3,rfl⟩|⟨e3,rfl⟩⟩:=z4j ar e
   ·exact ⟨e3,by rw [List.length_map];exact h1,vs,_,zwe h2,e3⟩
   ·exact ⟨e3,by rw [List.length_map];exact h1,vs,zwe h2,_,e3,rfl,_,rfl⟩
 have hK:∀b u,zhh (zyc K s₁.heap A) ts b=some u→K.lookup b=none:=fun b u q=>by
  rcases cases_H b u q with ⟨hb,rfl⟩|⟨hb,e⟩
  ·cases z:K.lookup b with
   |none=>rfl
   |some o=>
    have e2:=KX b o z
    rw [tabAt b hb] at e2
    cases e2
    exact absurd (show false=true from List.all_eq_true.mp hno (b,z3m) (PySem.W.mem_of_lookupK z)) Bool.false_ne_true
  ·exact (z4j ar e).1
 have free:∀{b:Addr} {o:Obj},s₁.heap.get? b=some o→(∀vs n,o.data≠.seq vs n)→(∀vs,o.cls=.none→o.data=.fields vs→False)→zhh (zyc K s₁.heap A) ts b=none:=fun {b o} e d n=>by
  rw [zMo (notT e n)]
  cases q:zyc K s₁.heap A b with
  |none=>rfl
  |some u=>
   obtain ⟨ob,vs,e1,e2,_⟩:=argD q
   rw [e] at e1
   cases e1
   exact absurd e2 (d _ _)
 have grow:∀b u,zhh (zyc K s₁.heap A) ts b=some u→u=.tbl #[]∧b∈ts.map (·.2)∨∃ob u',u=.frz ob u':=fun b u q=>by
  rcases cases_H b u q with ⟨hb,rfl⟩|⟨hb,e⟩
  ·exact .inl ⟨rfl,hb⟩
  ·obtain ⟨_,_,_,_,ob,u',z⟩:=argD e
   exact .inr ⟨ob,u',z⟩
 have hH:∀xs,zwf K (zyc K s₁.heap A) xs ds→sp xs (zhh (zyc K s₁.heap A) ts) (fun v H'=>Dw K H' v d0) fun _ _ _=>False:=fun xs h=>hsp _ _ xs ext hTab h
 generalize zhh (zyc K s₁.heap A) ts=H at hok hTab hK free grow hH
 have base_of:∀{b:Addr} {o:Obj},s₁.heap.get? b=some o→H b=none→(zZh s₁.heap H).get? b=some o:=fun e n=>zCz e n
 have nsK:∀{b:Addr} {m:Str→Option Value},s₁.heap.Ns b m→(zZh s₁.heap H).Ns b m:=fun {b m} ⟨o,es,ep,e,d,r⟩=>⟨o,es,ep,base_of e (free e (fun _ _ z=>by rw [d] at z;cases z) (fun _ _ z=>by rw [d] at z;cases z)),d,r⟩
 have nK:∀b o,K.lookup b=some o→H b=none:=fun b o e=>by
  cases q:H b with
  |none=>rfl
  |some u=>
   rw [hK b u q] at e
   cases e
 have hKb:K.In (zZh s₁.heap H):=fun b o e=>base_of (KX b o e) (nK b o e)
 have hM:Mod K mg (zZh s₁.heap H):=⟨hKb,nsK hns,⟨mb,nsK hb,hbb⟩,let ⟨mc,h1,h2⟩:=hlim;⟨mc,nsK h1,h2⟩⟩
 have hbmB:zdt (zZh s₁.heap H) mg:=by
  obtain ⟨bm,ob,a1,a2,a3,a4,a5,a6⟩:=hbm
  exact ⟨bm,ob,a1,a2,base_of a3 (free a3 (fun _ _ z=>by rw [a6] at z;cases z) (fun _ _ z=>by rw [a6] at z;cases z)),a4,a5,a6⟩
 have hcd:∀q∈ts,CodeHd (zZh s₁.heap H) q.1 q.2:=fun q hq=>by
  obtain ⟨o,vs,file,tf,flags,tg,inF,text,tt,e1,r1,r2,r3⟩:=(hT q hq).1
  exact ⟨o,vs,file,tf,flags,tg,inF,text,tt,base_of e1 (free e1 (fun _ _ z=>by rw [r2] at z;cases z) (fun _ z _=>by rw [r1] at z;cases z)),r1,r2,r3⟩
 have e0:zto P w K mg (zZh s₁.heap H) callerA [] s₁ H:=⟨rfl,hM,fun b o e=>zHA e,Nat.le_of_eq (z9x _ _),trivial,fun b hb=>absurd (show b∈([]:List Addr) from hb) (by simp),hok,.of_eq hg⟩
 have hl:vals.length=ps.length:=by rw [zHg hwl];exact hlen
 refine codeAny_mono ((F _ hKb (nsK hns) hbmB hcd).run callerA [] s₁ H ⟨vals,[]⟩ vals (vals.map toV) _ _ hr e0 (hbind s₁ vals hl) hV (hH _ hS)) fun r s' x=>?_
 cases r with
 |error e=>exact (hCX H e s' x).elim
 |ok fl=>
  cases fl with
  |next=>exact False.elim x
  |brk=>exact False.elim x
  |cont=>exact False.elim x
  |ret u=>
   obtain ⟨v,H',os,bare,un,hok',r',q⟩:=x
   have kept:∀b o,s₁.heap.get? b=some o→s'.heap.get? b=some o∨(b∈ts.map (·.2)∧o=z3m∧∃more,s'.heap.get? b=some { cls:=.none,data:=.fields (#[]++more) }):=fun b o e=>by
    cases q2:H b with
    |none=>exact .inl (un.keep b o e q2 (by intro z;exact absurd (show b∈([]:List Addr) from z) (by simp)) (by simp))
    |some u2=>
     rcases grow b u2 q2 with ⟨rfl,hb⟩|⟨ob,u3,rfl⟩
     ·right
      obtain ⟨more,z⟩:=un.tbls b _ q2
      have e1:s₁.heap.get? b=some z3m:=hok b _ q2
      rw [e] at e1
      exact ⟨hb,Option.some.inj e1,more,hok' b _ z⟩
     ·left
      have z2:=un.frzs b ob _ q2
      obtain ⟨e1,_⟩:=hok b _ q2
      obtain ⟨e2,_⟩:=hok' b _ z2
      rw [e] at e1
      cases e1
      exact e2
   have KX':K.In s'.heap:=fun b o e=>by
    rcases kept b o (KX b o e) with h|⟨hb,rfl,_⟩
    ·exact h
    ·obtain ⟨t,ht,rfl⟩:=List.mem_map.mp hb
     rw [hK _ _ (hTab t ht)] at e
     cases e
   obtain ⟨as,hrd⟩:=Dw.reads (R:=R) (cl:=cl) hok' KX' d0 v u q r'
   refine ⟨u,as,rfl,hrd,⟨fun b o e=>?_,fun b o e=>?_⟩,os,bare⟩
   ·rcases kept b o e with h|⟨hb,rfl,more,h⟩
    ·exact .inl h
    ·obtain ⟨t,ht,rfl⟩:=List.mem_map.mp hb
     obtain ⟨ob,vs,file,tf,flags,tg,inF,text,tt,e1,r1,r2,r3,_⟩:=(hT t ht).1
     exact .inr (.inl ⟨⟨t.1,ob,vs,e1,r1,r2,r3⟩,rfl,#[],more,rfl,h⟩)
   ·rcases kept b o e with h|⟨hb,rfl,more,h⟩
    ·exact ⟨_,h⟩
    ·exact ⟨_,h⟩
theorem zBw {r:OpenSpec} {k:Nat} {q:Program} {loose:List Str} {XP:(Str→Option Value)→Heap→Prop} {YP:World→Heap→Prop} {d:DefRec} {K:Params→PySem.W.Frag} {CX:CXT} {ps:List Str} {sp:PySem.W.Frag→Sp} {ts:List (Addr×Addr)}
  (hwell:r.wellSaid=true) (hdf:d.params.defaults=[]) (hlen:r.args.length=ps.length) (hr:zhc k callerA)
  (hY:∀(w:World) (h:Heap),YP w h→(K w.params).In h)
  (hno:∀w:World,PySem.W.noTabs (K w.params)=true)
  (hts:∀(w:World),∀t∈ts,∃(x:Str) (d:DefRec),(recsOf q).find? (fun e=>e.name==x)=some d∧PySem.W.tabIn (K w.params) x=some t)
  (F:∀(w:World) (mg:Str→Option Value) (fa:Addr) (h:Heap),YP w h→(K w.params).In h→h.Ns mainGlobals mg→mg d.name=some (.ref fa)→
   ∃fd:FuncData,(∀(s:Shared) (us:List Value),us.length=ps.length→BindsTo s fd ⟨us,[]⟩ (ps.zip us))∧
    ∀base:Heap,(K w.params).In base→base.Ns mainGlobals mg→zdt base mg→(∀t∈ts,CodeHd base t.1 t.2)→zG r.prog w (K w.params) mg base CX k fa fd ps (sp (K w.params)))
  (hsp:∀(K:PySem.W.Frag) (H0 H:Hp) (xs:List V) (a:Codec.denoteAll r.args),(∀b o,H0 b=some o→H b=some o)→(∀t∈ts,H t.2=some (.tbl #[]))→Codec.withinAll r.args a=true→Codec.app r.args r.asked a=true→zwf K H0 xs (Codec.encAll r.args a)→
   sp K xs H (fun v H'=>Dw K H' v (r.ret.enc (Codec.app r.args r.f a))) fun _ _ _=>False)
  (hCX:∀(H:Hp) (s:Shared) (e:Value) (s':Shared),CX [] H s (fun _ _ _=>False) e s'→False):
  PySem.W.WalkOS q loose XP YP r d [] (fun f vs=>PySem.call f vs):=by
 intro w s_0 s₁ mg mb G Y fa o pm cd doc dV kV ho hd hcd hD hmg hg args vals as hpre hlay hrd hwl hlo
 obtain ⟨a,e1,e2⟩:=PySem.W.os_pre_some hpre
 obtain ⟨e3,hwi⟩:=Codec.encAll_of_decAll r.args args a e1
 subst e3
 have KX:=hY w _ Y
 obtain ⟨fd,hb,hF⟩:=F w mg fa _ Y KX G.T.g hmg
 have hT:∀t∈ts,CodeHd s₁.heap t.1 t.2∧s₁.heap.get? t.2=some z3m:=fun t ht=>by
  obtain ⟨x,d',z1,z2⟩:=hts w t ht
  exact PySem.W.tab_of G.T KX z1 z2
 refine PySem.W.enter_call (codeAny_mono (zyw (R:=[]) (cl:=classAt s_0.heap) (d0:=r.ret.enc (Codec.app r.args r.f a)) KX G.T.g G.T.b G.T.builtins G.T.nolimit hg hT (hno w) G.T.bmain hwl (z3r _ _) (z3q hlay) hr hF hb (by rw [zgq];exact hlen)
  (fun H0 H xs hO ht hS=>hsp (K w.params) H0 H xs a hO ht hwi e2 hS) fun H e s'=>hCX H s₁ e s') fun r' s' hq=>?_)
 obtain ⟨u,as',rfl,h1,h2,h3,h4⟩:=hq
 exact ⟨.inl ⟨u,_,as',rfl,fun _=>rfl,h1,(OpenSpec.post_iff hwell hwi _ _).mpr rfl,fun z=>Bool.noConfusion (show false=true from z)⟩,h2,h3,h4⟩
end L2
namespace Pv
open PySem PySem.Spec PyProof.Rows L2
def z8z (t1 t2:Addr) (K:PySem.W.Frag):Sp:=fun vs H Q _=>∃(c:Addr) (zs:List Int),vs=[.ref c]∧SqL K H c (zs.map V.int)∧PyVbemak.answers_asked zs=true∧zvc H t1 zcf zaf∧zvc H t2 zHe zMe∧
 ∀(H':Hp) (q:Addr),H' q=some (.lst ((PyVbemak.answers zs).map V.int))→zvc H' t1 zcf zaf→zvc H' t2 zHe zMe→Q (.ref q) H'
section
variable {K:PySem.W.Frag} {h:Heap} {mg:Str→Option Value}
theorem zT {x:Str} {st:Stmt} {f:Addr} {oc:Value} {od an:Option Addr} {osl:Array (Option Value)} {kV doc pm cdv ct:Value} (X:K.In h) (G:h.Ns mainGlobals mg) (a:PySem.W.nsIn K mainGlobals x=some (some (.ref f)))
  (l:K.lookup f=some ⟨oc,od,.func (PySem.W.fnOf x x (z2c st) (zEc st) (zj st) .none kV doc pm an cdv ct),osl⟩) (c:PySem.W.codeIn K cdv x=true) (k:PySem.W.keepIn K (.ref f)=true):
  Fun K x x st f (PySem.W.fnOf x x (z2c st) (zEc st) (zj st) .none kV doc pm an cdv ct)∧mg x=some (.ref f):=⟨zDx l c k,PySem.W.mg_of X G a⟩
theorem zwc {x:Str} {v:Value} (X:K.In h) (G:h.Ns mainGlobals mg) (a:PySem.W.nsIn K mainGlobals x=some (some v)):mg x=some v:=PySem.W.mg_of X G a
theorem zhj {x:Str} (X:K.In h) (G:h.Ns mainGlobals mg) (a:PySem.W.nsIn K mainGlobals x=some none):mg x=none:=PySem.W.mg_none_of X G a
theorem z3t {x ql:Str} {st:Stmt} {C f:Addr} {oc:Value} {od an:Option Addr} {osl:Array (Option Value)} {kV doc pm cdv ct:Value} (X:K.In h) (G:h.Ns mainGlobals mg) (a:PySem.W.nsIn K mainGlobals x=some (some (.ref C)))
  (pg:PySem.W.plainGet K C Str.empty=true) (hd:PySem.W.hasDictIn K C=true) (po:PySem.W.plainOver K C=true) (sa:PySem.W.findIn K (.ref C) "__setattr__"=some (some (.builtin "object.__setattr__"))) (mk:PySem.W.makesIn K C=true) (kc:PySem.W.keepIn K (.ref C)=true)
  (a1:PySem.W.findIn K (.ref C) "__init__"=some (some (.ref f))) (i1:PySem.W.isFn K (.ref f)=true) (l:K.lookup f=some ⟨oc,od,.func (PySem.W.fnOf "__init__" ql (z2c st) (zEc st) (zj st) .none kV doc pm an cdv ct),osl⟩) (c:PySem.W.codeIn K cdv ql=true) (k:PySem.W.keepIn K (.ref f)=true):
  Cls K C∧mg x=some (.ref C)∧Mk K C f∧Fun K "__init__" ql st f (PySem.W.fnOf "__init__" ql (z2c st) (zEc st) (zj st) .none kV doc pm an cdv ct):=⟨⟨pg,hd,po,sa⟩,PySem.W.mg_of X G a,⟨mk,a1,i1,kc⟩,zDx l c k⟩
theorem zLc {C:Addr} {f:Str} (c:Cls K C) (e:PySem.W.findIn K (.ref C) f=some none):zhb K C f:=e
theorem vl0 {P:List Value→Prop} (h:P []):∀us:List Value,us.length=0→P us
 |[],_=>h
theorem vl1 {P:List Value→Prop} {n:Nat} (h:∀(a:Value) (us:List Value),us.length=n→P (a::us)):∀us:List Value,us.length=n + 1→P us
 |a::us,e=>h a us (Nat.succ.inj e)
theorem bind1 {x ql:Str} {st:Stmt} {f:Addr} {fd:FuncData} {p0:Str} (F:Fun K x ql st f fd) (h:∀(kV doc pm:Value) (an:Option Addr) (cdv ct a0:Value),bindArgs (PySem.W.fnOf x ql (z2c st) (zEc st) (zj st) .none kV doc pm an cdv ct) ⟨[a0],[]⟩=pure [(p0,a0)]):Binds K fd [p0] []:=F.binds fun _ _ _ _ _ _=>vl1 fun a0=>vl0 (h _ _ _ _ _ _ a0)
theorem zuc {x ql:Str} {st:Stmt} {f:Addr} {fd:FuncData} {p0 p1:Str} (F:Fun K x ql st f fd) (h:∀(kV doc pm:Value) (an:Option Addr) (cdv ct a0 a1:Value),bindArgs (PySem.W.fnOf x ql (z2c st) (zEc st) (zj st) .none kV doc pm an cdv ct) ⟨[a0,a1],[]⟩=pure [(p0,a0),(p1,a1)]):Binds K fd [p0,p1] []:=F.binds fun _ _ _ _ _ _=>vl1 fun a0=>vl1 fun a1=>vl0 (h _ _ _ _ _ _ a0 a1)
theorem zHc {x ql:Str} {st:Stmt} {f:Addr} {fd:FuncData} {p0 p1 p2:Str} (F:Fun K x ql st f fd) (h:∀(kV doc pm:Value) (an:Option Addr) (cdv ct a0 a1 a2:Value),bindArgs (PySem.W.fnOf x ql (z2c st) (zEc st) (zj st) .none kV doc pm an cdv ct) ⟨[a0,a1,a2],[]⟩=pure [(p0,a0),(p1,a1),(p2,a2)]):Binds K fd [p0,p1,p2] []:=F.binds fun _ _ _ _ _ _=>vl1 fun a0=>vl1 fun a1=>vl1 fun a2=>vl0 (h _ _ _ _ _ _ a0 a1 a2)
theorem zJw {x ql:Str} {st:Stmt} {f:Addr} {fd:FuncData} {p0 p1 p2 p3:Str} (F:Fun K x ql st f fd) (h:∀(kV doc pm:Value) (an:Option Addr) (cdv ct a0 a1 a2 a3:Value),bindArgs (PySem.W.fnOf x ql (z2c st) (zEc st) (zj st) .none kV doc pm an cdv ct) ⟨[a0,a1,a2,a3],[]⟩=pure [(p0,a0),(p1,a1),(p2,a2),(p3,a3)]):Binds K fd [p0,p1,p2,p3] []:=F.binds fun _ _ _ _ _ _=>vl1 fun a0=>vl1 fun a1=>vl1 fun a2=>vl1 fun a3=>vl0 (h _ _ _ _ _ _ a0 a1 a2 a3)
theorem zzh {x ql:Str} {st:Stmt} {f:Addr} {fd:FuncData} {p0 p1 p2 p3 p4:Str} (F:Fun K x ql st f fd) (h:∀(kV doc pm:Value) (an:Option Addr) (cdv ct a0 a1 a2 a3 a4:Value),bindArgs (PySem.W.fnOf x ql (z2c st) (zEc st) (zj st) .none kV doc pm an cdv ct) ⟨[a0,a1,a2,a3,a4],[]⟩=pure [(p0,a0),(p1,a1),(p2,a2),(p3,a3),(p4,a4)]):Binds K fd [p0,p1,p2,p3,p4] []:=F.binds fun _ _ _ _ _ _=>vl1 fun a0=>vl1 fun a1=>vl1 fun a2=>vl1 fun a3=>vl1 fun a4=>vl0 (h _ _ _ _ _ _ a0 a1 a2 a3 a4)
theorem zIC {x ql:Str} {st:Stmt} {f:Addr} {fd:FuncData} {p0 p1 p2 p3 p4 p5:Str} (F:Fun K x ql st f fd) (h:∀(kV doc pm:Value) (an:Option Addr) (cdv ct a0 a1 a2 a3 a4 a5:Value),bindArgs (PySem.W.fnOf x ql (z2c st) (zEc st) (zj st) .none kV doc pm an cdv ct) ⟨[a0,a1,a2,a3,a4,a5],[]⟩=pure [(p0,a0),(p1,a1),(p2,a2),(p3,a3),(p4,a4),(p5,a5)]):Binds K fd [p0,p1,p2,p3,p4,p5] []:=F.binds fun _ _ _ _ _ _=>vl1 fun a0=>vl1 fun a1=>vl1 fun a2=>vl1 fun a3=>vl1 fun a4=>vl1 fun a5=>vl0 (h _ _ _ _ _ _ a0 a1 a2 a3 a4 a5)
end
theorem zvB {P:Program} {w:World} {K:PySem.W.Frag} {mg:Str→Option Value} {A:Adr} {fa:Addr} (hfa:mg "answers"=some (.ref fa)) (T:Txt K mg A) (DC:zar P w K A):
  ∃fd:FuncData,(∀(s:Shared) (us:List Value),us.length=(["calls"]:List Str).length→BindsTo s fd ⟨us,[]⟩ ((["calls"]:List Str).zip us))∧
   ∀base:Heap,K.In base→base.Ns mainGlobals mg→zdt base mg→(∀t∈[(A.zzf,A.zHb),(A.zef,A.zob)],PySem.W.CodeHd base t.1 t.2)→zG P w K mg base CX0 11 fa fd ["calls"] (z8z A.zHb A.zob K):=by
 have e:=hfa.symm.trans T.z1d.m
 cases e
 obtain ⟨oc,od,kV,doc,pm,an,cdv,ct,osl,e2,lk,hcd⟩:=T.z1d.F.ex
 refine ⟨A.zYl,fun s us hu=>?_,fun base _ _ bm cd=>zDw T ⟨bm,cd _ (List.mem_cons_self ..),cd _ (List.mem_cons_of_mem _ (List.mem_cons_self ..))⟩ DC⟩
 rw [e2]
 match us,hu with
 |[_],_=>exact .of_eq rfl
end Pv
open PySem PySem.W PyProof.Rows
namespace PySem.W.Fast
theorem tw15315469430386930746:True:=⟨⟩
theorem tw8223831814654119549:True:=⟨⟩
theorem tw15769404925814894709:True:=⟨⟩
theorem tw4304753239731312565:True:=⟨⟩
theorem tw11084179183255884887:True:=⟨⟩
theorem tw7058128795847579779:True:=⟨⟩
theorem tw11750013795546078731:True:=⟨⟩
theorem tw3437194392456414564:True:=⟨⟩
theorem tw6078820738504105184:True:=⟨⟩
theorem tw2189551790624589038:True:=⟨⟩
theorem tw11989016249340482582:True:=⟨⟩
theorem tw11258567050678829147:True:=⟨⟩
theorem tw3202888967283183203:True:=⟨⟩
theorem tw3173904649537632470:True:=⟨⟩
theorem tw11984985390718694771:True:=⟨⟩
theorem tw3241314795653341981:True:=⟨⟩
theorem tw9177990667199860355:True:=⟨⟩
theorem tw6022673906557717419:True:=⟨⟩
theorem tw10699604634895276161:True:=⟨⟩
theorem tw16377644743858896063:True:=⟨⟩
theorem tw15870957540125204571:True:=⟨⟩
theorem tw9151006694855263823:True:=⟨⟩
theorem tw15981155766773977698:True:=⟨⟩
theorem tw17032231848373744677:True:=⟨⟩
theorem tw15899175426470455672:True:=⟨⟩
theorem tw17093877163727498100:True:=⟨⟩
theorem tw11616745865458450919:True:=⟨⟩
theorem tw15367609330206919746:True:=⟨⟩
theorem tw12705224576626488273:True:=⟨⟩
theorem tw616458910847235736:True:=⟨⟩
theorem tw4343220188336778793:True:=⟨⟩
theorem tw17794155029959158451:True:=⟨⟩
theorem tw13794331945290032366:True:=⟨⟩
theorem tw18067398094508794238:True:=⟨⟩
theorem tw9411932320500109101:True:=⟨⟩
theorem tw15721314002131923811:True:=⟨⟩
theorem tw12727179702922660576:True:=⟨⟩
theorem tw6854032373969924101:True:=⟨⟩
theorem tw8864692478664500947:True:=⟨⟩
theorem tw8105941490908478981:True:=⟨⟩
theorem tw12391734862236476670:True:=⟨⟩
theorem tw6952625479272010824:True:=⟨⟩
theorem tw3199562203305200156:True:=⟨⟩
theorem tw15562322929359709309:True:=⟨⟩
theorem tw14193106721795692147:True:=⟨⟩
theorem tw13200214567518857940:True:=⟨⟩
theorem tw6778876726712577903:True:=⟨⟩
theorem tw10118527642809472444:True:=⟨⟩
theorem tw7571478008726217294:True:=⟨⟩
theorem tw13562638519706246581:True:=⟨⟩
theorem tw6263501188448991092:True:=⟨⟩
theorem tw7334485495025021028:True:=⟨⟩
theorem tw622754016967082425:True:=⟨⟩
theorem tw13968569797935537320:True:=⟨⟩
theorem tw6246265821699922492:True:=⟨⟩
theorem tw14308060448514888251:True:=⟨⟩
theorem tw5869424080435213914:True:=⟨⟩
theorem tw18084608020249885767:True:=⟨⟩
theorem tw14543867229479716280:True:=⟨⟩
theorem tw5939828198606094182:True:=⟨⟩
theorem tw13043797677232082015:True:=⟨⟩
theorem tw1917592147539196452:True:=⟨⟩
theorem tw11896320302907012079:True:=⟨⟩
theorem tw18228170707111990767:True:=⟨⟩
theorem tw7663121699575318010:True:=⟨⟩
theorem tw13175903882173313200:True:=⟨⟩
theorem tw6309974417326073083:True:=⟨⟩
theorem tw14903382006251397678:True:=⟨⟩
theorem tw7086923257321931957:True:=⟨⟩
theorem tw12609833427491085385:True:=⟨⟩
theorem tw4435352070112564466:True:=⟨⟩
theorem tw5718534039925723900:True:=⟨⟩
theorem tw16869227046285072589:True:=⟨⟩
theorem tw16466470222069782715:True:=⟨⟩
theorem tw5530529578335491357:True:=⟨⟩
theorem tw11167038457655841576:True:=⟨⟩
theorem tw4063055774328238855:True:=⟨⟩
theorem tw14764396395543603155:True:=⟨⟩
theorem tw7994201208818265059:True:=⟨⟩
theorem tw3707075535737177488:True:=⟨⟩
theorem tw10369214066876286126:True:=⟨⟩
theorem tw3985389163988289627:True:=⟨⟩
theorem tw7581427044256043367:True:=⟨⟩
theorem tw13244775630464137285:True:=⟨⟩
theorem tw4819163252462564219:True:=⟨⟩
theorem tw4246258385986089073:True:=⟨⟩
theorem tw11587303503915208235:True:=⟨⟩
theorem tw7731306413168184389:True:=⟨⟩
theorem tw657358846249410888:True:=⟨⟩
theorem tw4068709166099232206:True:=⟨⟩
theorem tw12412827526111859297:True:=⟨⟩
theorem tw6533810742069756349:True:=⟨⟩
theorem tw2693676076795073534:True:=⟨⟩
theorem tw4076961149546861160:True:=⟨⟩
theorem tw5821780605806765020:True:=⟨⟩
theorem tw8605258865991509622:True:=⟨⟩
theorem tw13597118889403992406:True:=⟨⟩
theorem tw12749152458376237260:True:=⟨⟩
theorem tw18346125991667085509:True:=⟨⟩
theorem tw6746761524850655304:True:=⟨⟩
theorem tw11881281076345048460:True:=⟨⟩
theorem tw17162511870084654743:True:=⟨⟩
theorem tw6173163151171585308:True:=⟨⟩
theorem tw16426036519936917837:True:=⟨⟩
theorem tw4896608222433444083:True:=⟨⟩
theorem tw17412685767608562577:True:=⟨⟩
theorem tw1175676364704076398:True:=⟨⟩
theorem tw17765235915525208373:True:=⟨⟩
theorem tw3347340208274060873:True:=⟨⟩
theorem tw14065014436339081563:True:=⟨⟩
theorem tw12361160409583655371:True:=⟨⟩
theorem tw989858447166253281:True:=⟨⟩
theorem tw8582819957533763921:True:=⟨⟩
theorem tw2284271025686897576:True:=⟨⟩
theorem tw1252216449618217488:True:=⟨⟩
theorem tw13321330173289779423:True:=⟨⟩
theorem tw6505486739645721740:True:=⟨⟩
theorem tw17009010395490463222:True:=⟨⟩
theorem tw1157121565537841530:True:=⟨⟩
theorem tw12832847332882893939:True:=⟨⟩
theorem tw6643837733518527106:True:=⟨⟩
theorem tw12044430769421523460:True:=⟨⟩
theorem tw14770519114398482957:True:=⟨⟩
theorem tw9617339199506254666:True:=⟨⟩
theorem tw7913570967923687:True:=⟨⟩
theorem tw1024094813586805748:True:=⟨⟩
theorem tw9226866372049526950:True:=⟨⟩
theorem tw3916017578776875241:True:=⟨⟩
theorem tw11199475029429538642:True:=⟨⟩
theorem tw6811454366232124708:True:=⟨⟩
theorem tw10488495568611230446:True:=⟨⟩
theorem tw2580424395115452155:True:=⟨⟩
theorem tw17369619891182730391:True:=⟨⟩
theorem tw6507795510706306923:True:=⟨⟩
theorem tw3355279565583285489:True:=⟨⟩
theorem tw3548902133288511802:True:=⟨⟩
theorem tw742811442630864437:True:=⟨⟩
theorem tw14256571338751303559:True:=⟨⟩
theorem tw13533928227727656603:True:=⟨⟩
theorem tw16237746915234465775:True:=⟨⟩
theorem tw5721648136183074498:True:=⟨⟩
theorem tw18218693787041749120:True:=⟨⟩
theorem tw6605438225234065705:True:=⟨⟩
theorem tw3335791038075879494:True:=⟨⟩
theorem tw11606683542746702249:True:=⟨⟩
theorem tw16368689664397087914:True:=⟨⟩
theorem tw9922019499236707746:True:=⟨⟩
theorem tw9642974564248261016:True:=⟨⟩
theorem tw6584304746164086444:True:=⟨⟩
theorem tw12073968849545495610:True:=⟨⟩
theorem tw16822226067929087564:True:=⟨⟩
theorem tw4112099958187621914:True:=⟨⟩
theorem tw14790555785795290691:True:=⟨⟩
theorem tw2792418758685911063:True:=⟨⟩
theorem tw13565559504323087001:True:=⟨⟩
theorem tw11292992273227285180:True:=⟨⟩
theorem tw10425142489969530389:True:=⟨⟩
theorem tw15895257470376831590:True:=⟨⟩
theorem tw8074754250304353295:True:=⟨⟩
theorem tw3170931705074634473:True:=⟨⟩
theorem tw2974275308330100382:True:=⟨⟩
theorem tw1965656849563796881:True:=⟨⟩
theorem tw11771363633141903967:True:=⟨⟩
theorem tw17880342443229321898:True:=⟨⟩
theorem tw190073706271463750:True:=⟨⟩
theorem tw12029574999346993923:True:=⟨⟩
theorem tw15149020419234685422:True:=⟨⟩
theorem tw12425985750429591805:True:=⟨⟩
theorem tw3490137774860689856:True:=⟨⟩
theorem tw3998442019968504909:True:=⟨⟩
theorem tw9635002980191323986:True:=⟨⟩
theorem tw13430291395872310488:True:=⟨⟩
theorem tw13148554339486053733:True:=⟨⟩
theorem tw4477019064176285429:True:=⟨⟩
theorem tw16194372077036061763:True:=⟨⟩
theorem tw13446117335080011070:True:=⟨⟩
theorem tw911964662859007700:True:=⟨⟩
theorem tw10279560771684525587:True:=⟨⟩
theorem tw5932556106134609855:True:=⟨⟩
theorem tw4027475734767768026:True:=⟨⟩
theorem tw409565528896764177:True:=⟨⟩
theorem tw11457380524715518895:True:=⟨⟩
theorem tw14247357268230769866:True:=⟨⟩
theorem tw11591246170526270476:True:=⟨⟩
theorem tw16989439114325344889:True:=⟨⟩
theorem tw240268014036352130:True:=⟨⟩
theorem tw2350953950895539459:True:=⟨⟩
theorem tw12105294306738246673:True:=⟨⟩
theorem tw12174222989857101942:True:=⟨⟩
theorem tw170660787115204085:True:=⟨⟩
theorem tw12698514101639498098:True:=⟨⟩
theorem tw9080514369238247439:True:=⟨⟩
theorem tw10020573839742234066:True:=⟨⟩
theorem tw16422684130767127060:True:=⟨⟩
theorem tw8305548587008355352:True:=⟨⟩
theorem tw12053123012058788921:True:=⟨⟩
theorem tw2357070388403440505:True:=⟨⟩
theorem tw8837734061050887420:True:=⟨⟩
theorem tw13546720748646886667:True:=⟨⟩
theorem tw17063723626966359366:True:=⟨⟩
theorem tw11937411985078122203:True:=⟨⟩
theorem tw7309108556367980346:True:=⟨⟩
theorem tw136205210786587273:True:=⟨⟩
theorem tw17340900416509255308:True:=⟨⟩
theorem tw14532155280596112735:True:=⟨⟩
theorem tw2983249609979373058:True:=⟨⟩
theorem tw2756403844982249726:True:=⟨⟩
theorem tw11459913988841579683:True:=⟨⟩
theorem tw2982430722526750460:True:=⟨⟩
theorem tw1103932433527056722:True:=⟨⟩
theorem tw13835829786343675612:True:=⟨⟩
theorem tw11307440883502296138:True:=⟨⟩
theorem tw819192419100680180:True:=⟨⟩
theorem tw2271005039634681854:True:=⟨⟩
theorem tw4699735378465328476:True:=⟨⟩
theorem tw4409734428235881339:True:=⟨⟩
theorem tw4297127524526061020:True:=⟨⟩
theorem tw5918779695613497582:True:=⟨⟩
theorem tw17307018168756678790:True:=⟨⟩
theorem tw5996109419108335490:True:=⟨⟩
theorem tw16364564463773510401:True:=⟨⟩
theorem tw17264664444368891665:True:=⟨⟩
theorem tw1589052129577868345:True:=⟨⟩
theorem tw1828011683609350050:True:=⟨⟩
theorem tw9835499267674323948:True:=⟨⟩
theorem tw1288781572826222038:True:=⟨⟩
theorem tw2272919944149844849:True:=⟨⟩
theorem tw17914990188792148412:True:=⟨⟩
theorem tw8201538936877219212:True:=⟨⟩
theorem tw2963716499018688044:True:=⟨⟩
theorem tw6635111827482451459:True:=⟨⟩
theorem tw12494844711805722034:True:=⟨⟩
theorem tw7223581086189670394:True:=⟨⟩
theorem tw559506528648226415:True:=⟨⟩
theorem tw12749630956358989966:True:=⟨⟩
theorem tw9949692541634414578:True:=⟨⟩
theorem tw14747225371537588525:True:=⟨⟩
theorem tw10493173685352082413:True:=⟨⟩
theorem tw17757856982390836895:True:=⟨⟩
theorem tw10480157352765056892:True:=⟨⟩
theorem tw1821758891937219576:True:=⟨⟩
theorem tw11187688217776043102:True:=⟨⟩
theorem tw15476747655138628437:True:=⟨⟩
theorem tw1508334243764136205:True:=⟨⟩
theorem tw17685830516477629409:True:=⟨⟩
theorem tw12970874835761513118:True:=⟨⟩
theorem tw11960161796899604794:True:=⟨⟩
theorem tw12866845911215744677:True:=⟨⟩
theorem tw15303428740394519084:True:=⟨⟩
theorem tw1928307196770721216:True:=⟨⟩
theorem tw5173322141373680266:True:=⟨⟩
theorem tw7942260123569718905:True:=⟨⟩
theorem tw3789606082702657066:True:=⟨⟩
theorem tw3231243137067536650:True:=⟨⟩
theorem tw4519059382303185171:True:=⟨⟩
theorem tw3246044779405622942:True:=⟨⟩
theorem tw1140398896076006544:True:=⟨⟩
theorem tw5467364336339146684:True:=⟨⟩
theorem tw1496280746697237200:True:=⟨⟩
theorem tw12393793783154354783:True:=⟨⟩
theorem tw10456368785778561773:True:=⟨⟩
theorem tw14104810098646543919:True:=⟨⟩
theorem tw18414633499334144182:True:=⟨⟩
theorem tw10442992668064804085:True:=⟨⟩
theorem tw13135392742799411016:True:=⟨⟩
theorem tw7316082247275267503:True:=⟨⟩
theorem tw11935675181600265724:True:=⟨⟩
theorem tw11206544274104976673:True:=⟨⟩
theorem tw13787132263856838840:True:=⟨⟩
theorem tw4464340275227289862:True:=⟨⟩
theorem tw15668379018216831398:True:=⟨⟩
theorem tw17273764377179170377:True:=⟨⟩
theorem tw6052144773433955287:True:=⟨⟩
theorem tw5806516475696528186:True:=⟨⟩
theorem tw13815367830471197788:True:=⟨⟩
theorem tw13403990806823281841:True:=⟨⟩
theorem tw8320991458301335948:True:=⟨⟩
theorem tw3386242189356026555:True:=⟨⟩
theorem tw10730104664222559080:True:=⟨⟩
theorem tw12222867816114756602:True:=⟨⟩
theorem tw15089014317705016325:True:=⟨⟩
theorem tw14379812420429733485:True:=⟨⟩
theorem tw14732478822247634670:True:=⟨⟩
theorem tw17705015077050251444:True:=⟨⟩
theorem tw3337601056110996493:True:=⟨⟩
theorem tw4197100696797651783:True:=⟨⟩
theorem tw4749339665276350718:True:=⟨⟩
theorem tw13981531233584615121:True:=⟨⟩
theorem tw13875838840986537606:True:=⟨⟩
theorem tw10912489576770554164:True:=⟨⟩
theorem tw14221539960351878866:True:=⟨⟩
theorem tw7807663581820765489:True:=⟨⟩
theorem tw2317680648985745269:True:=⟨⟩
theorem tw7373964958495968268:True:=⟨⟩
theorem tw18071301366937775806:True:=⟨⟩
theorem tw7713464730192342914:True:=⟨⟩
theorem tw5520568445912357366:True:=⟨⟩
theorem tw15657077754534425364:True:=⟨⟩
theorem tw1842785296435448743:True:=⟨⟩
theorem tw11289076378001932893:True:=⟨⟩
theorem tw2513225177889880779:True:=⟨⟩
theorem tw4937069590543269851:True:=⟨⟩
theorem tw14142971468533202502:True:=⟨⟩
theorem tw13877979733210536688:True:=⟨⟩
theorem tw5420730252530242230:True:=⟨⟩
theorem tw210376998601065851:True:=⟨⟩
theorem tw8201654054812922286:True:=⟨⟩
theorem tw3741726616131801251:True:=⟨⟩
theorem tw1914276033040894204:True:=⟨⟩
theorem tw8520458555859909943:True:=⟨⟩
theorem tw5880088514675806914:True:=⟨⟩
theorem tw653557025652958408:True:=⟨⟩
theorem tw12689315049665385957:True:=⟨⟩
theorem tw17034444268646531600:True:=⟨⟩
theorem tw12020478184054173608:True:=⟨⟩
theorem tw13120859512099547780:True:=⟨⟩
theorem tw2211209670952482405:True:=⟨⟩
theorem tw4388650628322772796:True:=⟨⟩
theorem tw7187435011303236663:True:=⟨⟩
theorem tw5720688788568550903:True:=⟨⟩
theorem tw1313406867461277135:True:=⟨⟩
theorem tw16429153875307262114:True:=⟨⟩
theorem tw16190723603906774870:True:=⟨⟩
theorem tw14926248048418483011:True:=⟨⟩
theorem tw14295430420566038091:True:=⟨⟩
theorem tw5342386881210804494:True:=⟨⟩
theorem tw15705195132713214710:True:=⟨⟩
theorem tw13644703919429621523:True:=⟨⟩
theorem tw15049912010937444904:True:=⟨⟩
theorem tw18028909495879999780:True:=⟨⟩
theorem tw5559880957804423647:True:=⟨⟩
theorem tw5436656464607031643:True:=⟨⟩
theorem tw14226465891753871138:True:=⟨⟩
theorem tw9586926611055056047:True:=⟨⟩
theorem tw3771101334688617265:True:=⟨⟩
theorem tw6859822413810535664:True:=⟨⟩
theorem tw5829401716963374279:True:=⟨⟩
theorem tw10865483263355717995:True:=⟨⟩
theorem tw5568409536063565192:True:=⟨⟩
theorem tw5608078324159739375:True:=⟨⟩
theorem tw8708161207965769087:True:=⟨⟩
theorem tw234098572775962504:True:=⟨⟩
theorem tw1674287372919754090:True:=⟨⟩
theorem tw903303462135713411:True:=⟨⟩
theorem tw14445597513119204099:True:=⟨⟩
theorem tw18127651961712934267:True:=⟨⟩
theorem tw12205851753336256186:True:=⟨⟩
theorem tw7451640669653889915:True:=⟨⟩
theorem tw4151909996772063070:True:=⟨⟩
theorem tw6174379492323363130:True:=⟨⟩
theorem tw7182593503950586168:True:=⟨⟩
theorem tw313824139009496688:True:=⟨⟩
theorem tw17524289140402350470:True:=⟨⟩
theorem tw6663885974955900387:True:=⟨⟩
theorem tw3457629444295025283:True:=⟨⟩
theorem tw3820760603325636930:True:=⟨⟩
theorem tw13349227336876551003:True:=⟨⟩
theorem tw7481874843903244300:True:=⟨⟩
theorem tw5663314577120110055:True:=⟨⟩
theorem tw9577082943506495398:True:=⟨⟩
theorem tw7117585056221488729:True:=⟨⟩
theorem tw2676076987780865657:True:=⟨⟩
theorem tw16831376016224328200:True:=⟨⟩
theorem tw17342652668450186741:True:=⟨⟩
theorem tw1770707498939971216:True:=⟨⟩
theorem tw9036739183180244210:True:=⟨⟩
theorem tw7010453829402781748:True:=⟨⟩
theorem tw16366465233220590157:True:=⟨⟩
theorem tw7053703758483581075:True:=⟨⟩
theorem tw11673581172546799287:True:=⟨⟩
theorem tw5174409844311176674:True:=⟨⟩
theorem tw4570911565499920027:True:=⟨⟩
theorem tw168209849815025573:True:=⟨⟩
theorem tw1032815804517326809:True:=⟨⟩
theorem tw13661037801231293227:True:=⟨⟩
theorem tw8261306780612844172:True:=⟨⟩
theorem tw16931174275020994706:True:=⟨⟩
theorem tw2157773515439555326:True:=⟨⟩
theorem tw13533843855876154631:True:=⟨⟩
theorem tw4164869208111348195:True:=⟨⟩
theorem tw4550190349570072712:True:=⟨⟩
theorem tw5067471249326095296:True:=⟨⟩
theorem tw15657857351928703824:True:=⟨⟩
theorem tw4789907912950076603:True:=⟨⟩
theorem tw635036900126662410:True:=⟨⟩
theorem tw8281592595800314834:True:=⟨⟩
theorem tw17580775540689418241:True:=⟨⟩
theorem tw10554583425209136480:True:=⟨⟩
theorem tw7723723307639687735:True:=⟨⟩
theorem tw14273743257524428428:True:=⟨⟩
theorem tw2977664166674113280:True:=⟨⟩
theorem tw8201689323775509070:True:=⟨⟩
theorem tw3967289034629964810:True:=⟨⟩
theorem tw17075761094579399440:True:=⟨⟩
theorem tw12326415805783363232:True:=⟨⟩
theorem tw3251085929682752981:True:=⟨⟩
theorem tw5037451588356937352:True:=⟨⟩
theorem tw7764482351524287072:True:=⟨⟩
theorem tw10592075635463310849:True:=⟨⟩
theorem tw1283302412686246693:True:=⟨⟩
theorem tw15927092002089398859:True:=⟨⟩
theorem tw10166623183191237364:True:=⟨⟩
theorem tw8426878053922424118:True:=⟨⟩
theorem tw13086623181973136280:True:=⟨⟩
theorem tw11972133423255032934:True:=⟨⟩
theorem tw11346151317018305748:True:=⟨⟩
theorem tw7867243657369711380:True:=⟨⟩
theorem tw4216587158594856907:True:=⟨⟩
theorem tw6970899969438737439:True:=⟨⟩
theorem tw15192631183305987914:True:=⟨⟩
theorem tw4003957074402836102:True:=⟨⟩
theorem tw18423701756882724683:True:=⟨⟩
theorem tw7820502510594979282:True:=⟨⟩
theorem tw2186842235029719595:True:=⟨⟩
theorem tw15857984274667485850:True:=⟨⟩
theorem tw1455135943524027521:True:=⟨⟩
theorem tw14488759684235428490:True:=⟨⟩
theorem tw9129142175418701702:True:=⟨⟩
theorem tw12661922177589055948:True:=⟨⟩
theorem tw13982581862220741231:True:=⟨⟩
theorem tw3059669639620243541:True:=⟨⟩
theorem tw14570272655775108042:True:=⟨⟩
theorem tw449720124138825626:True:=⟨⟩
theorem tw1694757072529478743:True:=⟨⟩
theorem tw3734724715644683904:True:=⟨⟩
theorem tw3183167004509421754:True:=⟨⟩
theorem tw785785234342159879:True:=⟨⟩
theorem tw7742955127341912020:True:=⟨⟩
theorem tw8227619688504699985:True:=⟨⟩
theorem tw18243323988672212017:True:=⟨⟩
theorem tw13621070754206574222:True:=⟨⟩
theorem tw2986048262922901719:True:=⟨⟩
theorem tw14684895925819926664:True:=⟨⟩
theorem tw9200752206298613531:True:=⟨⟩
theorem tw14445178858899951734:True:=⟨⟩
theorem tw7376772786858120403:True:=⟨⟩
theorem tw6770787247734580598:True:=⟨⟩
theorem tw12495040464842113713:True:=⟨⟩
theorem tw17775976882667478682:True:=⟨⟩
theorem tw5187655442729584722:True:=⟨⟩
theorem tw7395232658003612565:True:=⟨⟩
theorem tw3151343707953480002:True:=⟨⟩
theorem tw15912554420365553112:True:=⟨⟩
theorem tw8235280313524176176:True:=⟨⟩
theorem tw427128663838692939:True:=⟨⟩
theorem tw14921557584712912180:True:=⟨⟩
theorem tw2943721158765496943:True:=⟨⟩
theorem tw457193215212198835:True:=⟨⟩
theorem tw5741467260156436977:True:=⟨⟩
theorem tw7108121933663887861:True:=⟨⟩
theorem tw18293794871986978647:True:=⟨⟩
theorem tw8522473703992382874:True:=⟨⟩
theorem tw5900313450923697321:True:=⟨⟩
theorem tw11515268230815690034:True:=⟨⟩
theorem tw16116567643624569460:True:=⟨⟩
theorem tw10597882928040658166:True:=⟨⟩
theorem tw5372072037580211519:True:=⟨⟩
theorem tw10034798594145708397:True:=⟨⟩
theorem tw7363681117292699274:True:=⟨⟩
theorem tw9541520267512064203:True:=⟨⟩
theorem tw4082326519290101712:True:=⟨⟩
theorem tw8279224544045081114:True:=⟨⟩
theorem tw2024136358412070186:True:=⟨⟩
theorem tw2100744669219212174:True:=⟨⟩
theorem tw8181516651813853312:True:=⟨⟩
theorem tw12737325379280432830:True:=⟨⟩
theorem tw6710076906031794271:True:=⟨⟩
theorem tw3286951266813967669:True:=⟨⟩
theorem tw5754351665650001541:True:=⟨⟩
theorem tw11689392933666871422:True:=⟨⟩
theorem tw8590667146098574966:True:=⟨⟩
theorem tw9040410644006630153:True:=⟨⟩
theorem tw2425790876111200756:True:=⟨⟩
theorem tw9714101073281370249:True:=⟨⟩
theorem tw13375237071448562214:True:=⟨⟩
theorem tw16906657202066042974:True:=⟨⟩
theorem tw17620782784735247745:True:=⟨⟩
theorem tw6323052428026000727:True:=⟨⟩
theorem tw9499104301696799197:True:=⟨⟩
theorem tw12999998685518023006:True:=⟨⟩
theorem tw5323686047042907443:True:=⟨⟩
theorem tw10604297645793383315:True:=⟨⟩
theorem tw13271785016534475102:True:=⟨⟩
theorem tw1389503144942032772:True:=⟨⟩
theorem tw10465169981607707723:True:=⟨⟩
theorem tw6479183435634977699:True:=⟨⟩
theorem tw15543548466219067323:True:=⟨⟩
theorem tw7074011326030162030:True:=⟨⟩
theorem tw16993903385252557029:True:=⟨⟩
theorem tw17932568966318522217:True:=⟨⟩
theorem tw4098577432675661002:True:=⟨⟩
theorem tw8923754693045501831:True:=⟨⟩
theorem tw15402662625179709125:True:=⟨⟩
theorem tw17451985480947121135:True:=⟨⟩
theorem tw17642297373314888250:True:=⟨⟩
theorem tw18143465342148197589:True:=⟨⟩
theorem tw18388414629793468931:True:=⟨⟩
theorem tw11184645510183523438:True:=⟨⟩
theorem tw8125437313444594098:True:=⟨⟩
theorem tw7708761867489464937:True:=⟨⟩
theorem tw15858568608262580083:True:=⟨⟩
theorem tw1253822981364305:True:=⟨⟩
theorem tw16283278511207722016:True:=⟨⟩
theorem tw18233368170281646685:True:=⟨⟩
theorem tw7825731240125151749:True:=⟨⟩
theorem tw13456920331301544671:True:=⟨⟩
theorem tw18284646360035421303:True:=⟨⟩
theorem tw7644787907242115549:True:=⟨⟩
theorem tw2515528319915577646:True:=⟨⟩
theorem tw8031507115199048954:True:=⟨⟩
theorem tw1785160410980890304:True:=⟨⟩
theorem tw4271641326908714190:True:=⟨⟩
theorem tw5104194257297116111:True:=⟨⟩
theorem tw7050662560673541820:True:=⟨⟩
theorem tw4819641084001163525:True:=⟨⟩
theorem tw4811464361737262698:True:=⟨⟩
theorem tw7548079268032301477:True:=⟨⟩
theorem tw8902094490679358523:True:=⟨⟩
theorem tw8630265770808918033:True:=⟨⟩
theorem tw14742295591582554649:True:=⟨⟩
theorem tw2139976376512218159:True:=⟨⟩
theorem tw7521149323395044606:True:=⟨⟩
theorem tw5713737066058586627:True:=⟨⟩
theorem tw14881523883938198934:True:=⟨⟩
theorem tw6773166055508698636:True:=⟨⟩
theorem tw15908475869596336290:True:=⟨⟩
theorem tw3502857515293176478:True:=⟨⟩
theorem tw2517275000280835332:True:=⟨⟩
theorem tw5836797227972602022:True:=⟨⟩
theorem tw4223681819583806064:True:=⟨⟩
theorem tw15407147320130890038:True:=⟨⟩
theorem tw2649118437668604901:True:=⟨⟩
theorem tw7923982726855334997:True:=⟨⟩
theorem tw13321739074941363133:True:=⟨⟩
theorem tw7546735209492802374:True:=⟨⟩
theorem tw6298135754359558926:True:=⟨⟩
theorem tw16282132121657209453:True:=⟨⟩
theorem tw3357741759154962485:True:=⟨⟩
theorem tw15071985132757858735:True:=⟨⟩
theorem tw11698057254939249035:True:=⟨⟩
theorem tw8558881031864639601:True:=⟨⟩
theorem tw2222066739192406964:True:=⟨⟩
theorem tw1945004581177728439:True:=⟨⟩
theorem tw8621088956429169490:True:=⟨⟩
theorem tw7332784222233188769:True:=⟨⟩
theorem tw7678014670739697881:True:=⟨⟩
theorem tw13009388154456838368:True:=⟨⟩
theorem tw15341236858101332246:True:=⟨⟩
theorem tw6807158893202557934:True:=⟨⟩
theorem tw3571179855588713847:True:=⟨⟩
theorem tw2543594051663766286:True:=⟨⟩
theorem tw18061166700116645847:True:=⟨⟩
theorem tw203807323914595557:True:=⟨⟩
theorem tw14102700130112361861:True:=⟨⟩
theorem tw14440628974029018723:True:=⟨⟩
theorem tw5700221888047599116:True:=⟨⟩
theorem tw15953761798766172867:True:=⟨⟩
theorem tw10310042169290437867:True:=⟨⟩
theorem tw12409519637195377717:True:=⟨⟩
theorem tw1123299908013124220:True:=⟨⟩
theorem tw2624060969713704129:True:=⟨⟩
theorem tw18311653409830197808:True:=⟨⟩
theorem tw3581270202480555550:True:=⟨⟩
theorem tw5445120857359943648:True:=⟨⟩
theorem tw17398339772732235720:True:=⟨⟩
theorem tw2043919020700975836:True:=⟨⟩
theorem tw480439049469035968:True:=⟨⟩
theorem tw2648319612320295925:True:=⟨⟩
theorem tw6694004821158195185:True:=⟨⟩
theorem tw1899386541508990954:True:=⟨⟩
theorem tw2261414309627306967:True:=⟨⟩
theorem tw17837779291439844863:True:=⟨⟩
theorem tw17663752586060263517:True:=⟨⟩
theorem tw6390942131827005532:True:=⟨⟩
theorem tw3808755434970365228:True:=⟨⟩
theorem tw7707074075874879963:True:=⟨⟩
theorem tw11104759331942125341:True:=⟨⟩
theorem tw7388282032267925765:True:=⟨⟩
theorem tw17425338439773250205:True:=⟨⟩
theorem tw18221710345260482136:True:=⟨⟩
theorem tw53058569710807963:True:=⟨⟩
theorem tw7740468146776881233:True:=⟨⟩
theorem tw4328829829951574539:True:=⟨⟩
theorem tw9697596155735001876:True:=⟨⟩
theorem tw6138621253823109392:True:=⟨⟩
theorem tw1320550134278154431:True:=⟨⟩
theorem tw3837413664906549341:True:=⟨⟩
theorem tw3919118590005674028:True:=⟨⟩
theorem tw9459064514518842464:True:=⟨⟩
theorem tw9790842424470052312:True:=⟨⟩
theorem tw17982260612649707321:True:=⟨⟩
theorem tw11901972179641903166:True:=⟨⟩
theorem tw13838503353614419401:True:=⟨⟩
theorem tw10066499323551248048:True:=⟨⟩
theorem tw8350444845848311798:True:=⟨⟩
theorem tw17190028132253640387:True:=⟨⟩
theorem tw15577217424172579109:True:=⟨⟩
theorem tw13881018490209568293:True:=⟨⟩
theorem tw7116200169283722403:True:=⟨⟩
theorem tw5898304185049182344:True:=⟨⟩
theorem tw13285875018099635271:True:=⟨⟩
theorem tw6714741971978293274:True:=⟨⟩
theorem tw14768866049754190763:True:=⟨⟩
end PySem.W.Fast
set_option maxRecDepth 100000 in
set_option maxHeartbeats 0 in
theorem PySem.Challenge.cw_origincert_s01_answers_holds : PySem.Challenge.rw_origincert_s01_answers.Holds := by
 w_on;k_headS;(case hw=>exact ⟨[.list [.int 1]],by decide +kernel,by decide +kernel⟩)
 k_fillS
 refine L2.zBw (r:=PySem.Challenge.rw_origincert_s01_answers) (k:=11) (CX:=L2.CX0) (ps:=["calls"]) (sp:=Pv.z8z 336 428) (ts:=[(340,336),(430,428)]) (by decide +kernel) rfl rfl ⟨rfl,by decide,by decide⟩ (fun w h Y=>PySem.W.kIn_of Y) ?cN ?cB ?cF ?cS (fun _ _ _ _ z=>z)
 case cN=>
  intro w
  kernel_rfl
 case cB=>
  intro w t ht
  simp only [List.mem_cons,List.not_mem_nil,or_false] at ht
  rcases ht with rfl|rfl
  ·exact ⟨"earliest_parts",_,rfl,by kernel_rfl⟩
  ·exact ⟨"ten_thousandths",_,rfl,by kernel_rfl⟩
 case cF=>
  intro w mg fa h Y KX G hmg
  have zXu:=Pv.zwc (x:="ARGUMENTS") KX G (by k_is)
  have zTy:=Pv.zwc (x:="RANGES") KX G (by k_is)
  have zkc:=Pv.zT (x:="argument_count") (st:=Pv.zEf) KX G (by k_is) (by k_is) (by k_is) (by k_is)
  have zMc:=Pv.zT (x:="all_in_range") (st:=Pv.zCg) KX G (by k_is) (by k_is) (by k_is) (by k_is)
  have z8:=Pv.zT (x:="has_account") (st:=Pv.zlh) KX G (by k_is) (by k_is) (by k_is) (by k_is)
  have zOb:=Pv.zT (x:="has_device") (st:=Pv.zfi) KX G (by k_is) (by k_is) (by k_is) (by k_is)
  have zFb:=Pv.zT (x:="device_at") (st:=Pv.zbj) KX G (by k_is) (by k_is) (by k_is) (by k_is)
  have ztc:=Pv.zT (x:="technique_of") (st:=Pv.ztg) KX G (by k_is) (by k_is) (by k_is) (by k_is)
  have z5b:=Pv.zT (x:="of_technique") (st:=Pv.zyg) KX G (by k_is) (by k_is) (by k_is) (by k_is)
  have zoc:=Pv.zT (x:="live_on") (st:=Pv.zYm) KX G (by k_is) (by k_is) (by k_is) (by k_is)
  have zzd:=Pv.zT (x:="offered_by") (st:=Pv.z0h) KX G (by k_is) (by k_is) (by k_is) (by k_is)
  have zpc:=Pv.zT (x:="cancelled_by") (st:=Pv.zxg) KX G (by k_is) (by k_is) (by k_is) (by k_is)
  have zxd:=Pv.zT (x:="expired_on") (st:=Pv.zui) KX G (by k_is) (by k_is) (by k_is) (by k_is)
  have zjc:=Pv.zT (x:="withdrawn_from") (st:=Pv.zCf) KX G (by k_is) (by k_is) (by k_is) (by k_is)
  have zed:=Pv.zT (x:="state_of") (st:=Pv.zEk) KX G (by k_is) (by k_is) (by k_is) (by k_is)
  have zcc:=Pv.zT (x:="account_of") (st:=Pv.z3h) KX G (by k_is) (by k_is) (by k_is) (by k_is)
  have zlb:=Pv.zT (x:="runs_in_state") (st:=Pv.z7f) KX G (by k_is) (by k_is) (by k_is) (by k_is)
  have zSb:=Pv.zT (x:="runs_live_on") (st:=Pv.zAg) KX G (by k_is) (by k_is) (by k_is) (by k_is)
  have z9b:=Pv.zT (x:="runs_offered_by") (st:=Pv.zff) KX G (by k_is) (by k_is) (by k_is) (by k_is)
  have ztb:=Pv.zT (x:="runs_cancelled_for") (st:=Pv.zee) KX G (by k_is) (by k_is) (by k_is) (by k_is)
  have zVb:=Pv.zT (x:="numbers_given") (st:=Pv.z1f) KX G (by k_is) (by k_is) (by k_is) (by k_is)
  have zwb:=Pv.zT (x:="numbers_in") (st:=Pv.zii) KX G (by k_is) (by k_is) (by k_is) (by k_is)
  have zSc:=Pv.zT (x:="are_alike") (st:=Pv.zxj) KX G (by k_is) (by k_is) (by k_is) (by k_is)
  have znc:=Pv.zT (x:="add_run") (st:=Pv.zPm) KX G (by k_is) (by k_is) (by k_is) (by k_is)
  have z2b:=Pv.zT (x:="add_stretch") (st:=Pv.z6g) KX G (by k_is) (by k_is) (by k_is) (by k_is)
  have zje:=Pv.zT (x:="with_run") (st:=Pv.z4k) KX G (by k_is) (by k_is) (by k_is) (by k_is)
  have zge:=Pv.zT (x:="restated") (st:=Pv.zwk) KX G (by k_is) (by k_is) (by k_is) (by k_is)
  have zub:=Pv.zT (x:="parts_between") (st:=Pv.zbg) KX G (by k_is) (by k_is) (by k_is) (by k_is)
  have zHd:=Pv.zT (x:="all_live") (st:=Pv.z1k) KX G (by k_is) (by k_is) (by k_is) (by k_is)
  have zmc:=Pv.zT (x:="earliest_parts") (st:=Pv.zBf) KX G (by k_is) (by k_is) (by k_is) (by k_is)
  have zgc:=Pv.zT (x:="greatest_parts") (st:=Pv.zAf) KX G (by k_is) (by k_is) (by k_is) (by k_is)
  have zrg:=Pv.zT (x:="where") (st:=Pv.zpq) KX G (by k_is) (by k_is) (by k_is) (by k_is)
  have zAe:=Pv.zT (x:="holding") (st:=Pv.zCm) KX G (by k_is) (by k_is) (by k_is) (by k_is)
  have zzg:=Pv.zT (x:="tally") (st:=Pv.z2q) KX G (by k_is) (by k_is) (by k_is) (by k_is)
  have zNd:=Pv.zT (x:="statement") (st:=Pv.znj) KX G (by k_is) (by k_is) (by k_is) (by k_is)
  have z8h:=Pv.zT (x:="info") (st:=Pv.zct) KX G (by k_is) (by k_is) (by k_is) (by k_is)
  have zli:=Pv.zT (x:="sums") (st:=Pv.zOt) KX G (by k_is) (by k_is) (by k_is) (by k_is)
  have zbd:=Pv.zT (x:="list_offers") (st:=Pv.zdh) KX G (by k_is) (by k_is) (by k_is) (by k_is)
  have z8c:=Pv.zT (x:="month_total") (st:=Pv.z9g) KX G (by k_is) (by k_is) (by k_is) (by k_is)
  have zkb:=Pv.zT (x:="numbers_by_technique") (st:=Pv.zTd) KX G (by k_is) (by k_is) (by k_is) (by k_is)
  have zIb:=Pv.zT (x:="units_by_technique") (st:=Pv.z5d) KX G (by k_is) (by k_is) (by k_is) (by k_is)
  have zqd:=Pv.zT (x:="units_left") (st:=Pv.zxi) KX G (by k_is) (by k_is) (by k_is) (by k_is)
  have zde:=Pv.zT (x:="parts_of") (st:=Pv.zMk) KX G (by k_is) (by k_is) (by k_is) (by k_is)
  have z8b:=Pv.zT (x:="ten_thousandths") (st:=Pv.zdf) KX G (by k_is) (by k_is) (by k_is) (by k_is)
  have zae:=Pv.zT (x:="disclose") (st:=Pv.zKk) KX G (by k_is) (by k_is) (by k_is) (by k_is)
  have zUc:=Pv.zT (x:="restate") (st:=Pv.zUm) KX G (by k_is) (by k_is) (by k_is) (by k_is)
  have zUb:=Pv.zT (x:="restate_stretch") (st:=Pv.z8e) KX G (by k_is) (by k_is) (by k_is) (by k_is)
  have zTc:=Pv.zT (x:="with_pairs") (st:=Pv.zwi) KX G (by k_is) (by k_is) (by k_is) (by k_is)
  have zrc:=Pv.zT (x:="restate_some") (st:=Pv.zvg) KX G (by k_is) (by k_is) (by k_is) (by k_is)
  have zVh:=Pv.zT (x:="move") (st:=Pv.z4s) KX G (by k_is) (by k_is) (by k_is) (by k_is)
  have zUd:=Pv.zT (x:="move_some") (st:=Pv.zjj) KX G (by k_is) (by k_is) (by k_is) (by k_is)
  have zHf:=Pv.zT (x:="cancel") (st:=Pv.zAo) KX G (by k_is) (by k_is) (by k_is) (by k_is)
  have zad:=Pv.zT (x:="cancel_some") (st:=Pv.z3g) KX G (by k_is) (by k_is) (by k_is) (by k_is)
  have zvd:=Pv.zT (x:="make_offer") (st:=Pv.zqi) KX G (by k_is) (by k_is) (by k_is) (by k_is)
  have zid:=Pv.zT (x:="end_offer") (st:=Pv.zkj) KX G (by k_is) (by k_is) (by k_is) (by k_is)
  have zIf:=Pv.zT (x:="accept") (st:=Pv.zno) KX G (by k_is) (by k_is) (by k_is) (by k_is)
  have zJe:=Pv.zT (x:="decline") (st:=Pv.zKm) KX G (by k_is) (by k_is) (by k_is) (by k_is)
  have zQd:=Pv.zT (x:="status_at") (st:=Pv.zGj) KX G (by k_is) (by k_is) (by k_is) (by k_is)
  have zOe:=Pv.zT (x:="runs_at") (st:=Pv.zcm) KX G (by k_is) (by k_is) (by k_is) (by k_is)
  have zti:=Pv.zT (x:="tick") (st:=Pv.zWt) KX G (by k_is) (by k_is) (by k_is) (by k_is)
  have zFe:=Pv.zT (x:="debt_of") (st:=Pv.zDm) KX G (by k_is) (by k_is) (by k_is) (by k_is)
  have zfe:=Pv.zT (x:="withdraw") (st:=Pv.ztk) KX G (by k_is) (by k_is) (by k_is) (by k_is)
  have zNe:=Pv.zT (x:="open_up") (st:=Pv.zWm) KX G (by k_is) (by k_is) (by k_is) (by k_is)
  have z6c:=Pv.zT (x:="add_account") (st:=Pv.z4g) KX G (by k_is) (by k_is) (by k_is) (by k_is)
  have ztd:=Pv.zT (x:="add_device") (st:=Pv.zki) KX G (by k_is) (by k_is) (by k_is) (by k_is)
  have zBe:=Pv.zT (x:="pass_on") (st:=Pv.zrm) KX G (by k_is) (by k_is) (by k_is) (by k_is)
  have zpg:=Pv.zT (x:="meter") (st:=Pv.zEq) KX G (by k_is) (by k_is) (by k_is) (by k_is)
  have zJb:=Pv.zT (x:="whole_certificates") (st:=Pv.z8d) KX G (by k_is) (by k_is) (by k_is) (by k_is)
  have zqg:=Pv.zT (x:="issue") (st:=Pv.zOq) KX G (by k_is) (by k_is) (by k_is) (by k_is)
  have zlc:=Pv.zT (x:="answer_issuing") (st:=Pv.zFf) KX G (by k_is) (by k_is) (by k_is) (by k_is)
  have zDc:=Pv.zT (x:="answer_moving") (st:=Pv.zog) KX G (by k_is) (by k_is) (by k_is) (by k_is)
  have zAc:=Pv.zT (x:="answer_ending") (st:=Pv.z9f) KX G (by k_is) (by k_is) (by k_is) (by k_is)
  have zzc:=Pv.zT (x:="answer_asking") (st:=Pv.z2f) KX G (by k_is) (by k_is) (by k_is) (by k_is)
  have z7c:=Pv.zT (x:="answer_call") (st:=Pv.zbh) KX G (by k_is) (by k_is) (by k_is) (by k_is)
  have z1d:=Pv.zT (x:="answers") (st:=Pv.zTl) KX G (by k_is) (by k_is) (by k_is) (by k_is)
  have zRd:=Pv.z3t (x:="Device") (ql:="Device.__init__") (st:=Pv.zfh) KX G (by k_is) (by k_is) (by k_is) (by k_is) (by k_is) (by k_is) (by k_is) (by k_is) (by k_is) (by k_is) (by k_is) (by k_is)
  have z1e:=Pv.z3t (x:="Offer") (ql:="Offer.__init__") (st:=Pv.zRh) KX G (by k_is) (by k_is) (by k_is) (by k_is) (by k_is) (by k_is) (by k_is) (by k_is) (by k_is) (by k_is) (by k_is) (by k_is)
  have zrd:=Pv.z3t (x:="Book") (ql:="Book.__init__") (st:=Pv.zDj) KX G (by k_is) (by k_is) (by k_is) (by k_is) (by k_is) (by k_is) (by k_is) (by k_is) (by k_is) (by k_is) (by k_is) (by k_is)
  have zGg:=Pv.z3t (x:="Run") (ql:="Run.__init__") (st:=Pv.zyk) KX G (by k_is) (by k_is) (by k_is) (by k_is) (by k_is) (by k_is) (by k_is) (by k_is) (by k_is) (by k_is) (by k_is) (by k_is)
  have zZg:=Pv.z3t (x:="Part") (ql:="Part.__init__") (st:=Pv.zsj) KX G (by k_is) (by k_is) (by k_is) (by k_is) (by k_is) (by k_is) (by k_is) (by k_is) (by k_is) (by k_is) (by k_is) (by k_is)
  have T:Pv.Txt _ mg ⟨_,_,_,_,_,_,_,_,_,_,_,_,_,_,_,_,_,_,_,_,_,_,_,_,_,_,_,_,_,_,_,_,_,_,_,_,_,_,_,_,_,_,_,_,_,_,_,_,_,_,_,_,_,_,_,_,_,_,_,_,_,_,_,_,_,_,_,_,_,_,_,_,_,_,_,_,_,_,_,_,_,_,_,_,_,_,_,_,_,_,_,_,_,_,_,_,_,_,_,_,_,_,_,_,_,_,_,_,_,_,_,_,_,_,_,_,_,_,_,_,_,_,_,_,_,_,_,_,_,_,_,_,_,_,_,_,_,_,_,_,_,_,_,_,_,_,_,_,_,_,_,_,_,_,_,_,_,_,_,_,_,_,_,340,336,430,428⟩:={ zVi:=⟨_,Pv.zwc KX G (by k_is)⟩,zek:=⟨_,Pv.zwc KX G (by k_is)⟩,zCl:=⟨_,Pv.zwc KX G (by k_is)⟩,zoj:=⟨_,Pv.zwc KX G (by k_is)⟩,zOj:=⟨_,Pv.zwc KX G (by k_is)⟩,zDl:=⟨_,Pv.zwc KX G (by k_is)⟩,zYg:=⟨_,Pv.zwc KX G (by k_is)⟩,zTe:=⟨_,Pv.zwc KX G (by k_is)⟩,zTh:=⟨_,Pv.zwc KX G (by k_is)⟩,zUi:=⟨_,Pv.zwc KX G (by k_is)⟩,zfb:=⟨_,Pv.zwc KX G (by k_is)⟩,zYj:=⟨_,Pv.zwc KX G (by k_is)⟩,z2p:=⟨_,Pv.zwc KX G (by k_is)⟩,znk:=⟨_,Pv.zwc KX G (by k_is)⟩,zig:=⟨_,Pv.zwc KX G (by k_is)⟩,zbc:=⟨_,Pv.zwc KX G (by k_is)⟩,zSd:=⟨_,Pv.zwc KX G (by k_is)⟩,zYe:=⟨_,Pv.zwc KX G (by k_is)⟩,zom:=⟨_,Pv.zwc KX G (by k_is)⟩,zxf:=⟨_,Pv.zwc KX G (by k_is)⟩,zFk:=⟨_,Pv.zwc KX G (by k_is)⟩,zdl:=⟨_,Pv.zwc KX G (by k_is)⟩,zKp:=⟨_,Pv.zwc KX G (by k_is)⟩,zVg:=⟨_,Pv.zwc KX G (by k_is)⟩,zof:=⟨_,Pv.zwc KX G (by k_is)⟩,zJi:=⟨_,Pv.zwc KX G (by k_is)⟩,zfj:=⟨_,Pv.zwc KX G (by k_is)⟩,zNv:=⟨_,Pv.zwc KX G (by k_is)⟩,zvj:=zXu,zLt:=zTy,zkc:=⟨zkc.1,Pv.bind1 zkc.1 fun _ _ _ _ _ _ _=>rfl,zkc.2⟩,zMc:=⟨zMc.1,Pv.zuc zMc.1 fun _ _ _ _ _ _ _ _=>rfl,zMc.2⟩,z8:=⟨z8.1,Pv.zuc z8.1 fun _ _ _ _ _ _ _ _=>rfl,z8.2⟩,zOb:=⟨zOb.1,Pv.zuc zOb.1 fun _ _ _ _ _ _ _ _=>rfl,zOb.2⟩,zFb:=⟨zFb.1,Pv.zuc zFb.1 fun _ _ _ _ _ _ _ _=>rfl,zFb.2⟩,ztc:=⟨ztc.1,Pv.zuc ztc.1 fun _ _ _ _ _ _ _ _=>rfl,ztc.2⟩,z5b:=⟨z5b.1,Pv.zHc z5b.1 fun _ _ _ _ _ _ _ _ _=>rfl,z5b.2⟩,zoc:=⟨zoc.1,Pv.bind1 zoc.1 fun _ _ _ _ _ _ _=>rfl,zoc.2⟩,zzd:=⟨zzd.1,Pv.zuc zzd.1 fun _ _ _ _ _ _ _ _=>rfl,zzd.2⟩,zpc:=⟨zpc.1,Pv.zuc zpc.1 fun _ _ _ _ _ _ _ _=>rfl,zpc.2⟩,zxd:=⟨zxd.1,Pv.bind1 zxd.1 fun _ _ _ _ _ _ _=>rfl,zxd.2⟩,zjc:=⟨zjc.1,Pv.bind1 zjc.1 fun _ _ _ _ _ _ _=>rfl,zjc.2⟩,zed:=⟨zed.1,Pv.bind1 zed.1 fun _ _ _ _ _ _ _=>rfl,zed.2⟩,zcc:=⟨zcc.1,Pv.bind1 zcc.1 fun _ _ _ _ _ _ _=>rfl,zcc.2⟩,zlb:=⟨zlb.1,Pv.zuc zlb.1 fun _ _ _ _ _ _ _ _=>rfl,zlb.2⟩,zSb:=⟨zSb.1,Pv.zuc zSb.1 fun _ _ _ _ _ _ _ _=>rfl,zSb.2⟩,z9b:=⟨z9b.1,Pv.zuc z9b.1 fun _ _ _ _ _ _ _ _=>rfl,z9b.2⟩,ztb:=⟨ztb.1,Pv.zuc ztb.1 fun _ _ _ _ _ _ _ _=>rfl,ztb.2⟩,zVb:=⟨zVb.1,Pv.bind1 zVb.1 fun _ _ _ _ _ _ _=>rfl,zVb.2⟩,zwb:=⟨zwb.1,Pv.bind1 zwb.1 fun _ _ _ _ _ _ _=>rfl,zwb.2⟩,zSc:=⟨zSc.1,Pv.zuc zSc.1 fun _ _ _ _ _ _ _ _=>rfl,zSc.2⟩,znc:=⟨znc.1,Pv.zuc znc.1 fun _ _ _ _ _ _ _ _=>rfl,znc.2⟩,z2b:=⟨z2b.1,Pv.zzh z2b.1 fun _ _ _ _ _ _ _ _ _ _ _=>rfl,z2b.2⟩,zje:=⟨zje.1,Pv.zuc zje.1 fun _ _ _ _ _ _ _ _=>rfl,zje.2⟩,zge:=⟨zge.1,Pv.zHc zge.1 fun _ _ _ _ _ _ _ _ _=>rfl,zge.2⟩,zub:=⟨zub.1,Pv.zHc zub.1 fun _ _ _ _ _ _ _ _ _=>rfl,zub.2⟩,zHd:=⟨zHd.1,Pv.zJw zHd.1 fun _ _ _ _ _ _ _ _ _ _=>rfl,zHd.2⟩,zmc:=⟨zmc.1,Pv.zuc zmc.1 fun _ _ _ _ _ _ _ _=>rfl,zmc.2⟩,zrh:=rfl,zgc:=⟨zgc.1,Pv.zuc zgc.1 fun _ _ _ _ _ _ _ _=>rfl,zgc.2⟩,zrg:=⟨zrg.1,Pv.zuc zrg.1 fun _ _ _ _ _ _ _ _=>rfl,zrg.2⟩,zAe:=⟨zAe.1,Pv.zuc zAe.1 fun _ _ _ _ _ _ _ _=>rfl,zAe.2⟩,zzg:=⟨zzg.1,Pv.zHc zzg.1 fun _ _ _ _ _ _ _ _ _=>rfl,zzg.2⟩,zNd:=⟨zNd.1,Pv.zuc zNd.1 fun _ _ _ _ _ _ _ _=>rfl,zNd.2⟩,z8h:=⟨z8h.1,Pv.zuc z8h.1 fun _ _ _ _ _ _ _ _=>rfl,z8h.2⟩,zli:=⟨zli.1,Pv.bind1 zli.1 fun _ _ _ _ _ _ _=>rfl,zli.2⟩,zbd:=⟨zbd.1,Pv.bind1 zbd.1 fun _ _ _ _ _ _ _=>rfl,zbd.2⟩,z8c:=⟨z8c.1,Pv.zHc z8c.1 fun _ _ _ _ _ _ _ _ _=>rfl,z8c.2⟩,zkb:=⟨zkb.1,Pv.zuc zkb.1 fun _ _ _ _ _ _ _ _=>rfl,zkb.2⟩,zIb:=⟨zIb.1,Pv.bind1 zIb.1 fun _ _ _ _ _ _ _=>rfl,zIb.2⟩,zqd:=⟨zqd.1,Pv.bind1 zqd.1 fun _ _ _ _ _ _ _=>rfl,zqd.2⟩,zde:=⟨zde.1,Pv.zHc zde.1 fun _ _ _ _ _ _ _ _ _=>rfl,zde.2⟩,z8b:=⟨z8b.1,Pv.bind1 z8b.1 fun _ _ _ _ _ _ _=>rfl,z8b.2⟩,zUg:=rfl,zae:=⟨zae.1,Pv.zHc zae.1 fun _ _ _ _ _ _ _ _ _=>rfl,zae.2⟩,zUc:=⟨zUc.1,Pv.zHc zUc.1 fun _ _ _ _ _ _ _ _ _=>rfl,zUc.2⟩,zUb:=⟨zUb.1,Pv.zzh zUb.1 fun _ _ _ _ _ _ _ _ _ _ _=>rfl,zUb.2⟩,zTc:=⟨zTc.1,Pv.bind1 zTc.1 fun _ _ _ _ _ _ _=>rfl,zTc.2⟩,zrc:=⟨zrc.1,Pv.zzh zrc.1 fun _ _ _ _ _ _ _ _ _ _ _=>rfl,zrc.2⟩,zVh:=⟨zVh.1,Pv.zzh zVh.1 fun _ _ _ _ _ _ _ _ _ _ _=>rfl,zVh.2⟩,zUd:=⟨zUd.1,Pv.zzh zUd.1 fun _ _ _ _ _ _ _ _ _ _ _=>rfl,zUd.2⟩,zHf:=⟨zHf.1,Pv.zzh zHf.1 fun _ _ _ _ _ _ _ _ _ _ _=>rfl,zHf.2⟩,zad:=⟨zad.1,Pv.zzh zad.1 fun _ _ _ _ _ _ _ _ _ _ _=>rfl,zad.2⟩,zvd:=⟨zvd.1,Pv.zzh zvd.1 fun _ _ _ _ _ _ _ _ _ _ _=>rfl,zvd.2⟩,zid:=⟨zid.1,Pv.zHc zid.1 fun _ _ _ _ _ _ _ _ _=>rfl,zid.2⟩,zIf:=⟨zIf.1,Pv.zuc zIf.1 fun _ _ _ _ _ _ _ _=>rfl,zIf.2⟩,zJe:=⟨zJe.1,Pv.zuc zJe.1 fun _ _ _ _ _ _ _ _=>rfl,zJe.2⟩,zQd:=⟨zQd.1,Pv.zHc zQd.1 fun _ _ _ _ _ _ _ _ _=>rfl,zQd.2⟩,zOe:=⟨zOe.1,Pv.zHc zOe.1 fun _ _ _ _ _ _ _ _ _=>rfl,zOe.2⟩,zti:=⟨zti.1,Pv.zuc zti.1 fun _ _ _ _ _ _ _ _=>rfl,zti.2⟩,zFe:=⟨zFe.1,Pv.bind1 zFe.1 fun _ _ _ _ _ _ _=>rfl,zFe.2⟩,zfe:=⟨zfe.1,Pv.zHc zfe.1 fun _ _ _ _ _ _ _ _ _=>rfl,zfe.2⟩,zNe:=⟨zNe.1,Pv.zHc zNe.1 fun _ _ _ _ _ _ _ _ _=>rfl,zNe.2⟩,z6c:=⟨z6c.1,Pv.bind1 z6c.1 fun _ _ _ _ _ _ _=>rfl,z6c.2⟩,ztd:=⟨ztd.1,Pv.zHc ztd.1 fun _ _ _ _ _ _ _ _ _=>rfl,ztd.2⟩,zBe:=⟨zBe.1,Pv.zHc zBe.1 fun _ _ _ _ _ _ _ _ _=>rfl,zBe.2⟩,zpg:=⟨zpg.1,Pv.zJw zpg.1 fun _ _ _ _ _ _ _ _ _ _=>rfl,zpg.2⟩,zJb:=⟨zJb.1,Pv.bind1 zJb.1 fun _ _ _ _ _ _ _=>rfl,zJb.2⟩,zqg:=⟨zqg.1,Pv.zHc zqg.1 fun _ _ _ _ _ _ _ _ _=>rfl,zqg.2⟩,zlc:=⟨zlc.1,Pv.zHc zlc.1 fun _ _ _ _ _ _ _ _ _=>rfl,zlc.2⟩,zDc:=⟨zDc.1,Pv.zHc zDc.1 fun _ _ _ _ _ _ _ _ _=>rfl,zDc.2⟩,zAc:=⟨zAc.1,Pv.zHc zAc.1 fun _ _ _ _ _ _ _ _ _=>rfl,zAc.2⟩,zzc:=⟨zzc.1,Pv.zHc zzc.1 fun _ _ _ _ _ _ _ _ _=>rfl,zzc.2⟩,z7c:=⟨z7c.1,Pv.zHc z7c.1 fun _ _ _ _ _ _ _ _ _=>rfl,z7c.2⟩,z1d:=⟨z1d.1,Pv.bind1 z1d.1 fun _ _ _ _ _ _ _=>rfl,z1d.2⟩,zkl:=zRd.2.2.2,zFl:=Pv.zHc zRd.2.2.2 fun _ _ _ _ _ _ _ _ _=>rfl,zbb:=zRd.1,zvt:=zRd.2.1,zxr:=zRd.2.2.1,zJc:=Pv.zLc zRd.1 (by k_is),zZc:=Pv.zLc zRd.1 (by k_is),zue:=Pv.zLc zRd.1 (by k_is),zJd:=Pv.zLc zRd.1 (by k_is),zKb:=Pv.zLc zRd.1 (by k_is),zVl:=z1e.2.2.2,zFm:=Pv.zzh z1e.2.2.2 fun _ _ _ _ _ _ _ _ _ _ _=>rfl,zKc:=z1e.1,zHv:=z1e.2.1,zhu:=z1e.2.2.1,z2e:=Pv.zLc z1e.1 (by k_is),zIh:=Pv.zLc z1e.1 (by k_is),ztf:=Pv.zLc z1e.1 (by k_is),zZf:=Pv.zLc z1e.1 (by k_is),zeo:=zrd.2.2.2,zZn:=Pv.bind1 zrd.2.2.2 fun _ _ _ _ _ _ _=>rfl,zt:=zrd.1,zEy:=zrd.2.1,zDv:=zrd.2.2.1,zre:=Pv.zLc zrd.1 (by k_is),zrf:=Pv.zLc zrd.1 (by k_is),zuf:=Pv.zLc zrd.1 (by k_is),zgd:=Pv.zLc zrd.1 (by k_is),z4c:=Pv.zLc zrd.1 (by k_is),zqc:=Pv.zLc zrd.1 (by k_is),zfc:=Pv.zLc zrd.1 (by k_is),zR:=Pv.zLc zrd.1 (by k_is),zqb:=Pv.zLc zrd.1 (by k_is),zWc:=Pv.zLc zrd.1 (by k_is),ztp:=zGg.2.2.2,zAh:=Pv.zIC zGg.2.2.2 fun _ _ _ _ _ _ _ _ _ _ _ _=>rfl,zJ:=zGg.1,zNs:=zGg.2.1,zpp:=zGg.2.2.1,znb:=Pv.zLc zGg.1 (by k_is),zXb:=Pv.zLc zGg.1 (by k_is),z0b:=Pv.zLc zGg.1 (by k_is),zec:=Pv.zLc zGg.1 (by k_is),zvb:=Pv.zLc zGg.1 (by k_is),z0n:=zZg.2.2.2,zIg:=Pv.zJw zZg.2.2.2 fun _ _ _ _ _ _ _ _ _ _=>rfl,znd:=zZg.1,z0o:=zZg.2.1,zkn:=zZg.2.2.1,z0f:=Pv.zLc zZg.1 (by k_is),zSe:=Pv.zLc zZg.1 (by k_is),zqf:=Pv.zLc zZg.1 (by k_is),zQi:=by decide,zZd:=by decide,zll:=by decide,zql:=by decide,zpu:=by decide,zXn:=by decide,zwg:=by decide,zGs:=by decide,zvi:=by decide,zOu:=by decide,zbk:=by decide,v_all:=Pv.zhj KX G (by k_is),zAd:=Pv.zhj KX G (by k_is),zmu:=Pv.zhj KX G (by k_is),zXk:=Pv.zhj KX G (by k_is),z9v:=Pv.zhj KX G (by k_is),zPv:=Pv.zhj KX G (by k_is),z4o:=Pv.zhj KX G (by k_is),zGk:=Pv.zhj KX G (by k_is),v_sum:=Pv.zhj KX G (by k_is),zKs:=Pv.zhj KX G (by k_is) }
  exact Pv.zvB hmg T (Pv.zQA (by k_is) (by k_is) (by k_is) (by k_is) (by k_is) (by k_is) (by k_is) (by k_is) (by k_is) (by k_is) (by k_is) (by k_is) (by k_is) (by k_is) (by k_is) (by k_is) (by k_is) (by k_is) (by k_is) (by k_is) (by k_is) (by k_is) (by k_is) (by k_is) (by k_is) (by k_is) (by k_is) (by k_is) (by k_is) (by k_is) (by k_is) (by k_is) (by k_is) (by k_is) (by k_is) (by k_is) (by k_is) (by k_is) (by k_is))
 case cS=>
  intro K H0 H xs a ext ht hwi hask hx
  cases hx with
  |cons h1 h2=>
   cases h2
   cases h1 with
   |lst hs ha=>
    have e:=L2.zVv a.1 _ ha
    subst e
    exact ⟨_,a.1,rfl,L2.zB.seq ext hs,hask,.inl (ht _ (List.mem_cons_self ..)),.inl (ht _ (List.mem_cons_of_mem _ (List.mem_cons_self ..))),fun H' p hp _ _=>.lst (L2.SqL.of hp) (L2.zuv _)⟩
