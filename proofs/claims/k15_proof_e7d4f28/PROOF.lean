import PyProof.Rows.All
import Wide.All
import OpenK.AllK
import Wide.FinOn
import Lean
import PyProof.EqAt
import PyProof.EqKinds
import PyProof.TupleCall
import KE.KSortKey
import KE.KLam
import KE.KRevIter
import PySem.Challenge.RW_rowwright_k15_grades
set_option Elab.async false
set_option linter.all false
set_option maxRecDepth 100000
namespace L2
open PySem PySem.Spec PyProof.Rows
abbrev Key:=Sum Int Str
def keyIs:Key→Value→Bool
  | .inl k,v=>Value.isInt k v
  | .inr x,v=>Value.isStrOf x v
def keyH (w:World):Key→Int
  | .inl k=>hashInt k
  | .inr x=>hashStr w x
theorem keyIs_shape:∀ {k:Key} {v:Value},keyIs k v=true→(∃ i t,k=Sum.inl i∧v=Value.int i t)∨(∃ x t,k=Sum.inr x∧v=Value.str x t)
  | .inl i,v,h=>by
    obtain ⟨t,e⟩:=Value.isInt_shape (k:=i) (v:=v) h
    exact .inl ⟨i,t,rfl,e⟩
  | .inr x,v,h=>by
    obtain ⟨t,e⟩:=Value.isStrOf_shape (x:=x) (v:=v) h
    exact .inr ⟨x,t,rfl,e⟩
theorem key_ll (a b:Int):decide ((Sum.inl a:Key)=Sum.inl b)=(a==b):=by
  by_cases e:a=b
  · subst e;simp
  · have h:¬ (Sum.inl a:Key)=Sum.inl b:=fun q=>e (Sum.inl.inj q)
    rw [decide_eq_false h]
    exact (beq_eq_false_iff_ne.mpr e).symm
theorem key_rr (a b:Str):decide ((Sum.inr a:Key)=Sum.inr b)=decide (a=b):=by
  by_cases e:a=b
  · subst e;simp
  · have h:¬ (Sum.inr a:Key)=Sum.inr b:=fun q=>e (Sum.inr.inj q)
    rw [decide_eq_false h,decide_eq_false e]
theorem key_lr (a:Int) (b:Str):decide ((Sum.inl a:Key)=Sum.inr b)=false:=decide_eq_false (fun q=>nomatch q)
theorem key_rl (a:Str) (b:Int):decide ((Sum.inr a:Key)=Sum.inl b)=false:=decide_eq_false (fun q=>nomatch q)
def mixKind (prog:Program) (w:World):PySem.KeyKind prog w Key where
  is:=keyIs
  hash:=keyH w
  inj:=fun v a b ha hb=>by
    rcases keyIs_shape ha with ⟨i,t,rfl,rfl⟩ | ⟨x,t,rfl,rfl⟩
    · rcases keyIs_shape hb with ⟨j,u,rfl,e⟩ | ⟨y,u,rfl,e⟩
      · injection e with e1 _;rw [e1]
      · exact nomatch e
    · rcases keyIs_shape hb with ⟨j,u,rfl,e⟩ | ⟨y,u,rfl,e⟩
      · exact nomatch e
      · injection e with e1 _;rw [e1]
  byValue:=fun k v h=>by
    rcases keyIs_shape h with ⟨i,t,rfl,rfl⟩ | ⟨x,t,rfl,rfl⟩<;>rfl
  pyHash:=fun hv h=>by
    rcases keyIs_shape hv with ⟨i,t,rfl,rfl⟩ | ⟨x,t,rfl,rfl⟩
    · exact wpAny_pyHash_int h
    · exact wpAny_pyHash_str h
  eqBool:=fun hu hv h=>by
    rcases keyIs_shape hu with ⟨i,t,rfl,rfl⟩ | ⟨x,t,rfl,rfl⟩
    · rcases keyIs_shape hv with ⟨j,u,rfl,rfl⟩ | ⟨y,u,rfl,rfl⟩
      · rw [key_ll] at h;exact wpAny_eqBool_int h
      · rw [key_lr] at h;exact SeqAt.EqAt.int_str i t y u _ _ _ _ h
    · rcases keyIs_shape hv with ⟨j,u,rfl,rfl⟩ | ⟨y,u,rfl,rfl⟩
      · rw [key_rl] at h;exact SeqAt.EqAt.str_int x t j u _ _ _ _ h
      · rw [key_rr] at h;exact wpAny_eqBool_str h
  «strs»:=fun k x t v h=>by
    rcases keyIs_shape h with ⟨i,u,rfl,e⟩ | ⟨y,u,rfl,e⟩
    · exact nomatch e
    · injection e with e1 _
      subst e1
      cases v<;>rfl
end L2
namespace L2
open PySem PySem.Spec PyProof.Rows
inductive V where
  | non | bl (b:Bool) | int (i:Int) | str (x:Str) | byt (b:Array UInt8) | flt (b:UInt64) | ref (a:Addr) | ty (n:String)
  deriving DecidableEq
def RelV:V→Value→Prop
  | .non,u=>u=Value.none
  | .bl b,u=>u=Value.bool b
  | .int i,u=>∃ t,u=Value.int i t
  | .str x,u=>∃ t,u=Value.str x t
  | .byt b,u=>∃ t,u=Value.bytes b t
  | .flt b,u=>∃ t,u=Value.float b t
  | .ref a,u=>u=Value.ref a
  | .ty n,u=>u=Value.type n
abbrev Vals:List V→List Value→Prop:=Paired RelV
theorem Vals.length {xs:List V} {us:List Value} (r:Vals xs us):xs.length=us.length:=Paired.length r
theorem Vals.get:∀ {xs:List V} {us:List Value} {i:Nat} {x:V},Vals xs us→xs[i]? = some x→∃ u,us[i]? = some u∧RelV x u
  | _,_,_,_,.nil,e=>by simp at e
  | _,_,0,_,.cons r _,e=>by simp at e;subst e;exact ⟨_,rfl,r⟩
  | _,_,i+1,x,.cons _ t,e=>by
    obtain ⟨u,h1,h2⟩:=Vals.get (i:=i) (x:=x) t (by simpa using e)
    exact ⟨u,by simpa using h1,h2⟩
theorem Vals.set {x:V} {u:Value} (r:RelV x u):∀ {xs:List V} {us:List Value} (i:Nat),Vals xs us→Vals (xs.set i x) (us.set i u)
  | _,_,_,.nil=>.nil
  | _,_,0,.cons _ t=>.cons r t
  | _,_,i+1,.cons q t=>.cons q (Vals.set r i t)
theorem Vals.append:∀ {xs ys:List V} {us ws:List Value},Vals xs us→Vals ys ws→Vals (xs++ys) (us++ws)
  | _,_,_,_,.nil,s=>s
  | _,_,_,_,.cons r t,s=>.cons r (Vals.append t s)
theorem Vals.take:∀ {xs:List V} {us:List Value} (n:Nat),Vals xs us→Vals (xs.take n) (us.take n)
  | _,_,0,_=>.nil
  | _,_,_+1,.nil=>.nil
  | _,_,n+1,.cons r t=>.cons r (Vals.take n t)
theorem Vals.drop:∀ {xs:List V} {us:List Value} (n:Nat),Vals xs us→Vals (xs.drop n) (us.drop n)
  | _,_,0,r=>r
  | _,_,_+1,.nil=>.nil
  | _,_,n+1,.cons _ t=>Vals.drop n t
def RelO:Option V→Option Value→Prop
  | some v,some u=>RelV v u
  | none,none=>True
  | _,_=>False
def KV {κ:Type}:List (κ × V)→List (κ × Value)→Prop:=Paired fun (p:κ × V) (q:κ × Value)=>p.1=q.1∧RelV p.2 q.2
def kV:Key→V
  | .inl i=>.int i
  | .inr x=>.str x
inductive HO where
  | lst (xs:List V)
  | tup (xs:List V)
  | dK (kvs:List (Key × V)) | dT (kvs:List (List Key × V))
  | set (S:Int→Bool) (n:Nat)
  | ins (C dx:Addr) (fs:List (Str × V))
  | own (x:Addr)
  | xd (fs:List (Str × V))
  | met (f x:Addr)
  | rng (lo hi:Int)
  | frz (o:Obj) (u:HO)
  | tbl (ps:Array Value)
  | lam (q:Str)
  | ext (φ:Heap→Prop)
abbrev Hp:=Addr→Option HO
def upd (H:Hp) (a:Addr) (o:HO):Hp:=fun b=>if b=a then some o else H b
theorem upd_same {H:Hp} {a:Addr} {o:HO}:upd H a o a=some o:=by unfold upd;rw [if_pos rfl]
theorem upd_ne {H:Hp} {a b:Addr} {o:HO} (h:b≠a):upd H a o b=H b:=by unfold upd;rw [if_neg h]
theorem ne_of {H:Hp} {a b:Addr} {o u:HO} (h:H a=some o) (h':H b=some u) (d:o≠u):a≠b:=by
  intro e;subst e;rw [h] at h';exact d (Option.some.inj h')
theorem ne_of_none {H:Hp} {a b:Addr} {o:HO} (h:H a=some o) (h':H b=none):a≠b:=by
  intro e;subst e;rw [h] at h';cases h'
section
variable (P:Program) (w:World)
def ObjOk (H:Hp) (h:Heap) (a:Addr):HO→Prop
  | .lst xs=>xs.length≤sizeLine∧∃ (its:List Value) (n:Nat),Vals xs its∧h.get? a=some { cls:=.type "list", data:=.seq its.toArray n }
  | .tup xs=>xs.length≤sizeLine∧∃ its:List Value,Vals xs its∧IsTup h a its.toArray
  | .dK kvs=>kvs.length≤sizeLine∧(a==sysModules)=false∧∃ vs,KV kvs vs∧h.DictOf (mixKind P w) a vs
  | .dT kvs=>kvs.length≤sizeLine∧(a==sysModules)=false∧∃ xs:List (List Key × Addr × Value),
      Paired (fun (p:List Key × V) (q:List Key × Addr × Value)=>p.1=q.1∧H q.2.1=some (.tup (p.1.map kV))∧RelV p.2 q.2.2) kvs xs ∧
      ∃ o es ep,h.get? a=some o∧o.ExactDict∧o.data = .dict es ep∧es.toList=xs.map (entryOfKey (tupleKind (mixKind P w)))∧(xs.map (·.1)).Nodup
  | .set S n=>h.SetOf (intKind P w) a S n
  | .ins C dx fs=>H dx=some (.own a)∧fs.length≤1000∧dx≠a∧h.get? a=some (PySem.W.instObj C dx) ∧
      ∃ mA,h.Ns1 dx mA∧(∀ f,RelO (fs.lookup f) (mA f))∧PySem.Within mA (fs.map (·.1))
  | .own _=>∃ o,h.get? a=some o
  | .xd fs=>∃ mA,h.Ns1 a mA∧∀ f,RelO (fs.lookup f) (mA f)
  | .rng lo hi=>∃ t u v,h.get? a=some { cls:=.type "range", data:=.fields #[.int lo t,.int hi u,.int 1 v] }
  | .frz o u=>h.get? a=some o∧ObjOk H h a u
  | .tbl ps=>h.get? a=some { cls:=.none,data:=.fields ps }
  | .lam q=>∃ ps:Array Value,h.get? a=some { cls:=.none,data:=.fields ps }∧TriplesOk ps.toList∧∀ (pos:Pos) (c:Value),codeAmong pos ps.toList=some c→∃ (c':Addr) (o:Obj) (u:HO) (vs:Array Value) (t:Tok),c = .ref c'∧H c' = some (.frz o u)∧o.data = .fields vs∧vs[1]? = some (.str q t)
  | .met f x=>h.get? a=some (PySem.W.methodObj (.ref f) (.ref x))
  | .ext φ=>φ h∧(∃ o,h.get? a=some o)∧∀ h1 h2:Heap,φ h1→(∀ o,h1.get? a=some o→h2.get? a=some o)→φ h2
def HOk (H:Hp) (h:Heap):Prop:=∀ a o,H a=some o→ObjOk P w H h a o
end
section
variable {P:Program} {w:World} {H H':Hp} {h h':Heap} {a:Addr} {o:HO}
theorem ObjOk.lt (x:ObjOk P w H h a o):a<h.objs.size:=by
  cases o with
  | lst xs=>obtain ⟨_,_,_,_,e⟩:=x;exact Heap.lt_size e
  | tup xs=>obtain ⟨_,_,_,p⟩:=x;exact p.lt
  | dK kvs=>obtain ⟨_,_,_,_,o,_,_,e,_⟩:=x;exact Heap.lt_size e
  | dT kvs=>obtain ⟨_,_,_,_,o,_,_,e,_⟩:=x;exact Heap.lt_size e
  | set S n=>obtain ⟨o,_,_,_,e,_⟩:=x;exact Heap.lt_size e
  | ins C dx fs=>obtain ⟨_,_,_,e,_⟩:=x;exact Heap.lt_size e
  | own y=>obtain ⟨_,e⟩:=x;exact Heap.lt_size e
  | xd fs=>obtain ⟨_,⟨_,_,_,e,_⟩,_⟩:=x;exact Heap.lt_size e
  | rng lo hi=>obtain ⟨_,_,_,e⟩:=x;exact Heap.lt_size e
  | frz ob u=>obtain ⟨e,_⟩:=x;exact Heap.lt_size e
  | tbl ps=>exact Heap.lt_size (show h.get? a=some _ from x)
  | lam q=>obtain ⟨_,e,_⟩:=x;exact Heap.lt_size e
  | met f y=>exact Heap.lt_size (show h.get? a=some _ from x)
  | ext φ=>obtain ⟨_,⟨_,e⟩,_⟩:=x;exact Heap.lt_size e
theorem Paired.mapP {α β:Type} {F G:α→β→Prop}:∀ {l₁:List α} {l₂:List β},Paired F l₁ l₂→(∀ a b,F a b→G a b)→Paired G l₁ l₂
  | _,_,.nil,_=>.nil
  | _,_,.cons r t,f=>.cons (f _ _ r) (Paired.mapP t f)
theorem ObjOk.stay (x:ObjOk P w H h a o) (k:∀ b u,(b=a∨H b=some (.own a))→h.get? b=some u→h'.get? b=some u)
    (ho:∀ b,H b=some (.own a)→H' b=some (.own a)) (ht:∀ b xs,H b=some (.tup xs)→H' b=some (.tup xs)) (hfz:∀ b o u,H b=some (.frz o u)→H' b=some (.frz o u)):ObjOk P w H' h' a o:=by
  induction o with
  | lst xs=>obtain ⟨z,its,n,r,e⟩:=x;exact ⟨z,its,n,r,k _ _ (.inl rfl) e⟩
  | tup xs=>obtain ⟨z,its,r,ob,e,c⟩:=x;exact ⟨z,its,r,ob,k _ _ (.inl rfl) e,c⟩
  | dK kvs=>obtain ⟨z,y,vs,r,ob,es,ep,e,c⟩:=x;exact ⟨z,y,vs,r,ob,es,ep,k _ _ (.inl rfl) e,c⟩
  | dT kvs =>
    obtain ⟨z,y,xs,r,ob,es,ep,e,c⟩:=x
    exact ⟨z,y,xs,Paired.mapP r fun p q z=>⟨z.1,ht _ _ z.2.1,z.2.2⟩,ob,es,ep,k _ _ (.inl rfl) e,c⟩
  | set S n=>obtain ⟨ob,es,ep,t,e,c⟩:=x;exact ⟨ob,es,ep,t,k _ _ (.inl rfl) e,c⟩
  | ins C dx fs =>
    obtain ⟨d,z,ne,e,mA,⟨od,es,ep,e2,c⟩,r⟩:=x
    exact ⟨ho _ d,z,ne,k _ _ (.inl rfl) e,mA,⟨od,es,ep,k _ _ (.inr d) e2,c⟩,r⟩
  | own y=>obtain ⟨ob,e⟩:=x;exact ⟨ob,k _ _ (.inl rfl) e⟩
  | xd fs=>obtain ⟨mA,⟨od,es,ep,e,c⟩,r⟩:=x;exact ⟨mA,⟨od,es,ep,k _ _ (.inl rfl) e,c⟩,r⟩
  | rng lo hi=>obtain ⟨t,u,v,e⟩:=x;exact ⟨t,u,v,k _ _ (.inl rfl) e⟩
  | frz ob u ih=>obtain ⟨e,q⟩:=x;exact ⟨k _ _ (.inl rfl) e,ih q⟩
  | lam q=>obtain ⟨ps,e,t,z⟩:=x;exact ⟨ps,k _ _ (.inl rfl) e,t,fun pos c hc=>let ⟨c',o,u,vs,tt,e1,e2,e3⟩:=z pos c hc;⟨c',o,u,vs,tt,e1,hfz _ _ _ e2,e3⟩⟩
  | tbl ps =>
    have e:h.get? a=some { cls:=.none,data:=.fields ps }:=x
    show h'.get? a=some { cls:=.none,data:=.fields ps }
    exact k a _ (.inl rfl) e
  | met f y =>
    have e:h.get? a=some (PySem.W.methodObj (.ref f) (.ref y)):=x
    show h'.get? a=some (PySem.W.methodObj (.ref f) (.ref y))
    exact k a _ (.inl rfl) e
  | ext φ=>obtain ⟨p,⟨o,e⟩,st⟩:=x;exact ⟨st _ _ p fun o q=>k _ _ (.inl rfl) q,⟨o,k _ _ (.inl rfl) e⟩,st⟩
theorem HOk.lt (x:HOk P w H h) (e:H a=some o):a<h.objs.size:=(x a o e).lt
theorem HOk.fresh (x:HOk P w H h) (e:h.objs.size≤a):H a=none:=by
  cases q:H a with
  | none=>rfl
  | some u=>exact absurd (Nat.lt_of_lt_of_le (x.lt q) e) (Nat.lt_irrefl _)
theorem HOk.kept (x:HOk P w H h) (k:∀ b u,h.get? b=some u→h'.get? b=some u):HOk P w H h':=fun a o e =>
  (x a o e).stay (fun b u _ q=>k b u q) (fun _ q=>q) (fun _ _ q=>q) fun _ _ _ q=>q
theorem HOk.laid (x:HOk P w H h) (k:∀ b u,h.get? b=some u→h'.get? b=some u) (hp:h.objs.size≤a) (new:ObjOk P w (upd H a o) h' a o):HOk P w (upd H a o) h':=fun b u e=>by
  have hn:=x.fresh hp
  by_cases hb:b=a
  · subst hb;rw [upd_same] at e;cases e;exact new
  · rw [upd_ne hb] at e
    exact (x b u e).stay (fun c v _ q=>k c v q) (fun c q=>by rw [upd_ne (ne_of_none q hn)];exact q) (fun c xs q=>by rw [upd_ne (ne_of_none q hn)];exact q) fun c ob uu q=>by rw [upd_ne (ne_of_none q hn)];exact q
end
def Rd (H:Hp) (a:Addr) (u:HO):Prop:=H a=some u ∨ ∃ o,H a=some (.frz o u)
theorem Rd.of {H:Hp} {a:Addr} {u:HO} (h:H a=some u):Rd H a u:=.inl h
theorem Rd.ok {P:Program} {w:World} {H:Hp} {h:Heap} {a:Addr} {u:HO} (r:Rd H a u) (x:HOk P w H h):ObjOk P w H h a u:=by
  rcases r with r | ⟨o,r⟩
  · exact x a u r
  · obtain ⟨_,q⟩:=x a _ r
    exact q
def Mut:Option HO→Prop
  | some (.lst _)=>True
  | some (.dK _)=>True
  | some (.dT _)=>True
  | some (.set _ _)=>True
  | some (.ins _ _ _)=>True
  | some (.ext _)=>True
  | some (.lam _)=>True
  | _=>False
section
variable {P:Program} {w:World} {H:Hp} {h h':Heap} {x e:Addr} {o':HO}
theorem HOk.write (ok:HOk P w H h) (mu:Mut (H x)) (he:e=x∨H e=some (.own x)) (k:∀ b u,b≠e→h.get? b=some u→h'.get? b=some u) (heo:∃ u,h'.get? e=some u)
    (new:ObjOk P w (upd H x o') h' x o'):HOk P w (upd H x o') h':=fun b u q=>by
  have nown:∀ c y,H c=some (.own y)→c≠x:=fun c y r z=>by subst z;rw [r] at mu;exact mu
  have ntup:∀ c xs,H c=some (.tup xs)→c≠x:=fun c xs r z=>by subst z;rw [r] at mu;exact mu
  have nfrz:∀ c ob uu,H c=some (.frz ob uu)→c≠x:=fun c ob uu r z=>by subst z;rw [r] at mu;exact mu
  by_cases hb:b=x
  · subst hb;rw [upd_same] at q;cases q;exact new
  · rw [upd_ne hb] at q
    by_cases hbe:b=e
    · have q':H b=some (.own x):=by
        rcases he with z | z
        · exact absurd (hbe.trans z) hb
        · rw [hbe];exact z
      rw [q] at q';cases q'
      obtain ⟨v,hv⟩:=heo
      exact ⟨v,by rw [hbe];exact hv⟩
    · refine (ok b u q).stay (fun c v hc r=>k c v ?_ r) (fun c r=>by rw [upd_ne (nown c b r)];exact r) (fun c xs r=>by rw [upd_ne (ntup c xs r)];exact r) fun c ob uu r=>by rw [upd_ne (nfrz c ob uu r)];exact r
      rcases hc with rfl | hc
      · exact hbe
      · rintro rfl
        rcases he with z | z
        · exact nown c b hc z
        · rw [hc] at z;cases z;exact hb rfl
end
structure Un (fs ex:List Addr) (H H':Hp) (h h':Heap):Prop where
  keep:∀ b o,h.get? b=some o→H b=none→b∉fs→b∉ex→h'.get? b=some o
  slot:∀ b o,h.get? b=some o→H b=none→b∈fs→b∉ex→∃ sl,h'.get? b=some { o with slots:=sl }
  free:∀ b o,h.get? b=some o→H b=none→b∉ex→H' b=none
  there:∀ b o,h.get? b=some o→b∉ex→∃ o',h'.get? b=some o'
  tups:∀ b xs,H b=some (.tup xs)→H' b=some (.tup xs)
  frzs:∀ b o u,H b=some (.frz o u)→H' b=some (.frz o u)
  tbls:∀ b ps,H b=some (.tbl ps)→∃ more,H' b=some (.tbl (ps++more))
section
variable {fs fs' ex ex':List Addr} {H H1 H2:Hp} {h h1 h2 h':Heap} {a x e:Addr} {o:HO}
theorem Un.any (u:Un fs ex H H1 h h1) {b:Addr} {ob:Obj} (q:h.get? b=some ob) (n:H b=none) (hx:b∉ex):∃ sl,h1.get? b=some { ob with slots:=sl }:=by
  by_cases hb:b∈fs
  · exact u.slot b ob q n hb hx
  · exact ⟨ob.slots,u.keep b ob q n hb hx⟩
theorem Un.trans (a:Un fs ex H H1 h h1) (b:Un fs ex H1 H2 h1 h2):Un fs ex H H2 h h2 where
  keep:=fun c ob q n hc hx=>b.keep c ob (a.keep c ob q n hc hx) (a.free c ob q n hx) hc hx
  slot:=fun c ob q n hc hx=>by
    obtain ⟨sl,e1⟩:=a.slot c ob q n hc hx
    obtain ⟨sl',e2⟩:=b.slot c _ e1 (a.free c ob q n hx) hc hx
    exact ⟨sl',e2⟩
  free:=fun c ob q n hx=>by
    obtain ⟨o',e1⟩:=a.there c ob q hx
    exact b.free c o' e1 (a.free c ob q n hx) hx
  there:=fun c ob q hx=>by
    obtain ⟨o',e1⟩:=a.there c ob q hx
    exact b.there c o' e1 hx
  tups:=fun c xs q=>b.tups c xs (a.tups c xs q)
  frzs:=fun c ob xs q=>b.frzs c ob xs (a.frzs c ob xs q)
  tbls:=fun c ps q=>by
    obtain ⟨m1,e1⟩:=a.tbls c ps q
    obtain ⟨m2,e2⟩:=b.tbls c _ e1
    exact ⟨m1++m2,by rw [e2,Array.append_assoc]⟩
theorem Un.kept (k:∀ b u,h.get? b=some u→h'.get? b=some u):Un fs ex H H h h' :=
  ⟨fun b ob q _ _ _=>k b ob q,fun b ob q _ _ _=>⟨ob.slots,k b ob q⟩,fun _ _ _ n _=>n,fun b ob q _=>⟨ob,k b ob q⟩,fun _ _ q=>q,fun _ _ _ q=>q,fun _ ps q=>⟨#[],by rw [q];simp⟩⟩
theorem Un.refl:Un fs ex H H h h:=Un.kept fun _ _ q=>q
theorem Un.laid (k:∀ b u,h.get? b=some u→h'.get? b=some u) (hp:h.objs.size≤a) (hn:H a=none):Un fs ex H (upd H a o) h h' where
  keep:=fun b u q _ _ _=>k b u q
  slot:=fun b u q _ _ _=>⟨u.slots,k b u q⟩
  free:=fun b u q n _=>by rw [upd_ne (Nat.ne_of_lt (Nat.lt_of_lt_of_le (Heap.lt_size q) hp))];exact n
  there:=fun b u q _=>⟨u,k b u q⟩
  tups:=fun b xs q=>by rw [upd_ne (ne_of_none q hn)];exact q
  frzs:=fun b u xs q=>by rw [upd_ne (ne_of_none q hn)];exact q
  tbls:=fun b ps q=>⟨#[],by rw [upd_ne (ne_of_none q hn),q];simp⟩
theorem Un.write (mu:Mut (H x)) (he:e=x∨H e=some (.own x)) (k:∀ b u,b≠e→h.get? b=some u→h'.get? b=some u) (heo:∃ u,h'.get? e=some u):Un fs ex H (upd H x o) h h':=by
  have hx:∀ b,H b=none→b≠x:=fun b n z=>by subst z;rw [n] at mu;exact mu
  have hb:∀ b,H b=none→b≠e:=fun b n z=>by
    subst z
    rcases he with r | r
    · exact hx b n r
    · rw [n] at r;cases r
  have hm:∀ b u,H b=some u→¬ Mut (some u)→b≠x:=fun b u q nm z=>by subst z;rw [q] at mu;exact nm mu
  refine ⟨fun b u q n _ _=>k b u (hb b n) q,fun b u q n _ _=>⟨u.slots,k b u (hb b n) q⟩,fun b u q n _=>by rw [upd_ne (hx b n)];exact n,fun b u q _=>?_,
    fun b xs q=>by rw [upd_ne (hm b _ q fun z=>z)];exact q,fun b u xs q=>by rw [upd_ne (hm b _ q fun z=>z)];exact q,fun b ps q=>⟨#[],by rw [upd_ne (hm b _ q fun z=>z),q];simp⟩⟩
  by_cases hbe:b=e
  · subst hbe;exact heo
  · exact ⟨u,k b u hbe q⟩
theorem Un.mono (u:Un fs ex H H1 h h1) (hs:∀ b∈fs,b∈fs') (hx:∀ b∈ex,b∈ex'):Un fs' ex' H H1 h h1 :=
  ⟨fun b ob q n hb he=>u.keep b ob q n (fun z=>hb (hs b z)) fun z=>he (hx b z),fun _ _ q n _ he=>u.any q n fun z=>he (hx _ z),fun b ob q n he=>u.free b ob q n fun z=>he (hx b z),fun b ob q he=>u.there b ob q fun z=>he (hx b z),u.tups,u.frzs,u.tbls⟩
end
def trk (h:Heap) (H:Hp):List Addr:=(List.range h.objs.size).filter fun a=>(H a).isSome
def hidT (h:Heap) (H:Hp):Heap:=PySem.W.hideAll h (trk h H)
theorem hidT_size (h:Heap) (H:Hp):(hidT h H).objs.size=h.objs.size:=PySem.W.hideAll_size _ _
theorem hidT_get {h:Heap} {H:Hp} {b:Addr} {o:Obj} (e:h.get? b=some o) (n:H b=none):(hidT h H).get? b=some o :=
  PySem.W.hideAll_get _ e fun hm=>by
    have q:(H b).isSome=true:=(List.mem_filter.mp hm).2
    rw [n] at q;simp at q
theorem of_hidT {h:Heap} {H:Hp} {b:Addr} {o:Obj} (e:(hidT h H).get? b=some o):h.get? b=some o∧H b=none:=by
  have e':h.get? b=some o:=PySem.W.of_hideAll (trk h H) e
  refine ⟨e',?_⟩
  cases q:H b with
  | none=>rfl
  | some x =>
    have hm:b∈trk h H:=List.mem_filter.mpr ⟨List.mem_range.mpr (Heap.lt_size e'),by simp [q]⟩
    have z:(hidT h H).get? b=none:=PySem.W.hideAll_none (trk h H) hm
    rw [z] at e;cases e
def allNews (g h:Heap) (L:Addr):List (Addr × Obj):=(List.range h.objs.size).filterMap fun a=>if a=L∨(g.get? a).isSome=true then none else (h.get? a).map fun o=>(a,o)
def rest (g h:Heap) (L d:Addr):List (Addr × Obj):=(allNews g h L).filter fun p=>decide (p.1≠d)
end L2
namespace L2
open PySem PySem.Spec PyProof.Rows
def lamDefs:List Str:=["gathered"]
def lamQ (x:Str):Str:=(x ++ ".<locals>.") ++ "<lambda>"
structure Mod (K:PySem.W.Frag) (mg:Str→Option Value) (base:Heap):Prop where
  kin:K.In base
  glob:base.Ns mainGlobals mg
  blt:∃ mb,base.Ns builtinsNs mb∧∀ x:Str,x ≠ "__name__" → mb x=bootBuiltins x
  nolimit:base.NoLimit
  bmain:∃ bm ob,mg "__builtins__" = some (.ref bm)∧bm≠builtinsNs∧base.get? bm=some ob∧ob.cls = .type "module" ∧ ob.dict=some builtinsNs∧ob.data = .plain
  lam:∀ x∈lamDefs,∀ c P,PySem.W.tabIn K x=some (c,P)→PySem.W.CodeHd base c P
  seer:base.NoSeer
structure Cx where
  prog:Program
  w:World
  K:PySem.W.Frag
  mg:Str→Option Value
  base:Heap
  A:Around
  N:List Str
  s₀:Shared
  H₀:Hp
  env:Env
  outer:List Env
  stack:List Env
  ex:List Addr
  fn:Str→Bool
  calm:Bool
  pn:List (Addr × Obj)
  xe:Value→Shared→Prop
def frs (l:List Env):List Addr:=l.filterMap (·.frame)
abbrev Cx.fs (X:Cx):List Addr:=frs X.outer
def Vis (sc:Scope) (x:Str):Prop:=sc.names.lookup x=some .local∨sc.names.lookup x=some .cell∨sc.names.lookup x=some .free
def Loc (sc:Scope) (x:Str):Prop:=sc.names.lookup x=some .local∨sc.names.lookup x=some .cell
def Look (env:Env) (h:Heap) (m:Str→Option Value) (x:Str) (u:Value):Prop :=
  (env.kindOf x=some .local∧m x=some u)∨((env.kindOf x=some .cell∨env.kindOf x=some .free)∧∃ c,env.cells.lookup x=some c∧h.IsCell c (some u))
structure Cx.Ok (X:Cx):Prop where
  mod:Mod X.K X.mg X.base
  kind:X.env.scope.kind = .function
  glob:X.env.globals=mainGlobals
  blt:X.env.builtins=builtinsNs
  above:X.s₀.heap.objs.size≤X.env.locals
  inj:∀ x y c,X.env.cells.lookup x=some c→X.env.cells.lookup y=some c→x=y
  has:∀ x,(X.env.kindOf x=some .cell∨X.env.kindOf x=some .free)→∃ c,X.env.cells.lookup x=some c
  cab:∀ x c,X.fn x=true→X.env.cells.lookup x=some c→X.s₀.heap.objs.size≤c
  hd:X.calm=true→X.A.handled=none
  frames:X.A.frames=some X.stack
  stk:X.stack=X.outer∨(X.stack=X.env::X.outer∧X.env.frame=some X.env.locals)
  exf:∀ b∈X.ex,b≠X.env.locals∧∀ x c,X.env.cells.lookup x=some c→c≠b
  bs:∀ b o,X.base.get? b=some o→X.s₀.heap.get? b=some o∧X.H₀ b=none
  bsz:X.base.objs.size≤X.s₀.heap.objs.size
  noex:∀ b o,X.base.get? b=some o→b∉X.ex
  exfs:∀ b∈X.ex,b∉X.fs
  funs:X.s₀.heap.FunFrames X.base X.outer
  frf:∀ b∈X.fs,X.H₀ b=none
structure Inv (X:Cx) (pins:List (Addr × Obj)) (σ:List (Option V)) (H:Hp) (s:Shared):Prop where
  ok:X.Ok
  os:s.os=X.s₀.os
  bare:AllBare s.gens
  base:Un X.fs X.ex X.H₀ H X.s₀.heap s.heap
  loc:∃ m,s.heap.Ns X.env.locals m∧∀ (i:Nat) (x:Str) (v:V),X.N[i]? = some x→σ[i]? = some (some v)→Vis X.env.scope x→∃ u,RelV v u∧Look X.env s.heap m x u
  cell:∀ x c,X.env.cells.lookup x=some c→∃ v,s.heap.IsCell c v
  free:H X.env.locals=none
  freeC:∀ x c,X.env.cells.lookup x=some c→H c=none
  pin:∀ p∈X.pn++pins,s.heap.get? p.1=some p.2∧H p.1=none∧p.1≠X.env.locals∧p.1∉X.fs∧∀ v,p.2.data≠.cell v
  hok:HOk X.prog X.w H s.heap
  len:σ.length=X.N.length
section
variable {X:Cx} {pins:List (Addr × Obj)} {σ:List (Option V)} {H H':Hp} {s:Shared} {h':Heap}
theorem Cx.Ok.nofr (ok:X.Ok) {b:Addr} {o:Obj} (e:X.base.get? b=some o):b∉X.fs:=fun hb=>by
  have:=(ok.funs.mem hb).1
  rw [e] at this;cases this
theorem Inv.bs (I:Inv X pins σ H s):∀ b o,X.base.get? b=some o→s.heap.get? b=some o∧H b=none:=fun b o e =>
  ⟨I.base.keep b o (I.ok.bs b o e).1 (I.ok.bs b o e).2 (I.ok.nofr e) (I.ok.noex b o e),I.base.free b o (I.ok.bs b o e).1 (I.ok.bs b o e).2 (I.ok.noex b o e)⟩
theorem Inv.bk (I:Inv X pins σ H s):∀ b o,X.base.get? b=some o→s.heap.get? b=some o:=fun b o e=>(I.bs b o e).1
theorem Inv.mod (I:Inv X pins σ H s):Mod X.K X.mg X.base:=I.ok.mod
theorem Inv.kIn (I:Inv X pins σ H s):X.K.In s.heap:=I.ok.mod.kin.keeps I.bk
theorem Inv.nolimit (I:Inv X pins σ H s):s.heap.NoLimit:=I.ok.mod.nolimit.keeps I.bk
theorem Inv.lt (I:Inv X pins σ H s):X.env.locals<s.heap.objs.size:=let ⟨_,hn,_⟩:=I.loc;hn.lt
theorem Inv.sz (I:Inv X pins σ H s):X.s₀.heap.objs.size≤s.heap.objs.size:=Nat.le_trans I.ok.above (Nat.le_of_lt I.lt)
theorem Inv.nofs (I:Inv X pins σ H s) {a:Addr} (h:s.heap.objs.size≤a):a∉X.fs:=fun hb=>by
  obtain ⟨_,o,ho,_⟩:=I.ok.funs.mem hb
  exact absurd (Nat.lt_of_lt_of_le (Heap.lt_size ho) (Nat.le_trans I.sz h)) (Nat.lt_irrefl _)
theorem Inv.cne (I:Inv X pins σ H s):∀ x c,X.env.cells.lookup x=some c→c≠X.env.locals:=fun x c e z=>by
  obtain ⟨v,o,ho,hd⟩:=I.cell x c e
  obtain ⟨m,⟨o',es,ep,ho',hd',_⟩,_⟩:=I.loc
  rw [z,ho'] at ho;cases ho;rw [hd'] at hd;cases hd
theorem Inv.funs (I:Inv X pins σ H s):s.heap.FunFrames X.base X.outer:=by
  have all:∀ (l:List Env),(∀ b∈frs l,b∈X.fs)→X.s₀.heap.FunFrames X.base l→s.heap.FunFrames X.base l:=by
    intro l
    induction l with
    | nil=>intro _ _;trivial
    | cons env r ih =>
      intro hs hl
      obtain ⟨hk,⟨L,o,hf,hn,ho,hd⟩,hr⟩:=hl
      have hL:L∈X.fs:=hs L (by unfold frs;rw [List.filterMap_cons,hf];exact List.mem_cons_self)
      obtain ⟨sl,e⟩:=I.base.slot L o ho (I.ok.frf L hL) hL fun z=>I.ok.exfs L z hL
      exact ⟨hk,⟨L,_,hf,hn,e,hd⟩,ih (fun b hb=>hs b (by unfold frs;rw [List.filterMap_cons,hf];exact List.mem_cons_of_mem _ hb)) hr⟩
  exact all X.outer (fun _ hb=>hb) I.ok.funs
theorem Inv.stack (I:Inv X pins σ H s):s.heap.FunFrames X.base X.stack:=by
  rcases I.ok.stk with e | ⟨e,hf⟩
  · rw [e];exact I.funs
  · rw [e]
    obtain ⟨m,hn,_⟩:=I.loc
    refine .cons (by rw [I.ok.kind];decide) hf hn ?_ I.funs
    exact Heap.get?_none_of_le (Nat.le_trans I.ok.bsz I.ok.above)
theorem Inv.stkSub (I:Inv X pins σ H s):∀ b∈frs X.stack,b∈X.env.locals::X.fs:=fun b hb=>by
  rcases I.ok.stk with e | ⟨e,hf⟩
  · rw [e] at hb;exact List.mem_cons_of_mem _ hb
  · rw [e] at hb
    unfold frs at hb
    rw [List.filterMap_cons,hf] at hb
    exact hb
theorem Inv.stkFree (I:Inv X pins σ H s):∀ b∈frs X.stack,H b=none:=fun b hb=>by
  rcases List.mem_cons.mp (I.stkSub b hb) with e | hb
  · rw [e];exact I.free
  · obtain ⟨_,o,ho,_⟩:=I.ok.funs.mem hb
    exact I.base.free b o ho (I.ok.frf b hb) fun z=>I.ok.exfs b z hb
theorem Inv.step {g':Array GenState} {t':Nat} {d':Drawn} {ch:List Addr} (I:Inv X pins σ H s)
    (hch:∀ b∈ch,(b∈X.ex∨X.s₀.heap.objs.size≤b)∧b≠X.env.locals∧(∀ x c,X.env.cells.lookup x=some c→c≠b)∧∀ p∈X.pn++pins,p.1≠b)
    (keep:∀ b o,b≠X.env.locals→b∉X.fs→b∉ch→s.heap.get? b=some o→H b=none→h'.get? b=some o)
    (slot:∀ b o,b≠X.env.locals→b∈X.fs→b∉ch→s.heap.get? b=some o→H b=none→∃ sl,h'.get? b=some { o with slots:=sl }) (free:∀ b o,b∉ch→s.heap.get? b=some o→H b=none→H' b=none)
    (there:∀ b o,b∉ch→s.heap.get? b=some o→∃ o',h'.get? b=some o')
    (tups:∀ b xs,H b=some (.tup xs)→H' b=some (.tup xs)) (frzs:∀ b o u,H b=some (.frz o u)→H' b=some (.frz o u)) (tbls:∀ b ps,H b=some (.tbl ps)→∃ more,H' b=some (.tbl (ps++more)))
    (ns:∀ m,s.heap.Ns X.env.locals m→h'.Ns X.env.locals m) (hok:HOk X.prog X.w H' h') (hg:AllBare g') :
    Inv X pins σ H' { s with heap:=h',gens:=g',drawn:=d',toks:=t' }:=by
  have neL:∀ b o,X.s₀.heap.get? b=some o→b≠X.env.locals:=fun b o e=>Nat.ne_of_lt (Nat.lt_of_lt_of_le (Heap.lt_size e) I.ok.above)
  have neC:∀ b o,X.s₀.heap.get? b=some o→b∉X.ex→b∉ch:=fun b o e hx hb=>by
    rcases (hch b hb).1 with z | z
    · exact hx z
    · exact absurd (Nat.lt_of_lt_of_le (Heap.lt_size e) z) (Nat.lt_irrefl _)
  have cellK:∀ x c,X.env.cells.lookup x=some c→∀ v,s.heap.IsCell c v→h'.IsCell c v:=fun x c e v ⟨o,ho,hd⟩=>by
    have nch:c∉ch:=fun z=>(hch c z).2.2.1 x c e rfl
    by_cases hc:c∈X.fs
    · obtain ⟨sl,q⟩:=slot c o (I.cne x c e) hc nch ho (I.freeC x c e)
      exact ⟨_,q,hd⟩
    · exact ⟨o,keep c o (I.cne x c e) hc nch ho (I.freeC x c e),hd⟩
  refine ⟨I.ok,I.os,hg,⟨fun b o e n hb hx=>?_,fun b o e n hb hx=>?_,fun b o e n hx=>?_,fun b o e hx=>?_,fun b xs e=>tups b xs (I.base.tups b xs e),fun b o xs e=>frzs b o xs (I.base.frzs b o xs e),fun b ps e=>?_⟩,?_,fun x c e=>?_,?_,fun x c e=>?_,fun p hp=>?_,hok,I.len⟩
  · exact keep b o (neL b o e) hb (neC b o e hx) (I.base.keep b o e n hb hx) (I.base.free b o e n hx)
  · obtain ⟨sl,e1⟩:=I.base.slot b o e n hb hx
    obtain ⟨sl',e2⟩:=slot b _ (neL b o e) hb (neC b o e hx) e1 (I.base.free b o e n hx)
    exact ⟨sl',e2⟩
  · obtain ⟨o',e1⟩:=I.base.there b o e hx
    exact free b o' (neC b o e hx) e1 (I.base.free b o e n hx)
  · obtain ⟨o',e1⟩:=I.base.there b o e hx
    exact there b o' (neC b o e hx) e1
  · obtain ⟨m1,e1⟩:=I.base.tbls b ps e
    obtain ⟨m2,e2⟩:=tbls b _ e1
    exact ⟨m1++m2,by rw [e2,Array.append_assoc]⟩
  · obtain ⟨m,hn,hl⟩:=I.loc
    refine ⟨m,ns m hn,fun i x v e1 e2 e3=>?_⟩
    obtain ⟨u,r,l⟩:=hl i x v e1 e2 e3
    refine ⟨u,r,?_⟩
    rcases l with l | ⟨k,c,e,z⟩
    · exact .inl l
    · exact .inr ⟨k,c,e,cellK x c e _ z⟩
  · obtain ⟨v,z⟩:=I.cell x c e
    exact ⟨v,cellK x c e v z⟩
  · obtain ⟨m,⟨o,_,_,ho,_⟩,_⟩:=I.loc
    exact free _ o (fun z=>(hch _ z).2.1 rfl) ho I.free
  · obtain ⟨v,o,ho,hd⟩:=I.cell x c e
    exact free c o (fun z=>(hch c z).2.2.1 x c e rfl) ho (I.freeC x c e)
  · obtain ⟨e,n,ne,nf,d⟩:=I.pin p hp
    have nch:p.1∉ch:=fun z=>(hch p.1 z).2.2.2 p hp rfl
    exact ⟨keep p.1 p.2 ne nf nch e n,free p.1 p.2 nch e n,ne,nf,d⟩
theorem Inv.un {t':Nat} (I:Inv X pins σ H s) (u:Un X.fs [] H H' s.heap h') (hok:HOk X.prog X.w H' h'):Inv X pins σ H' { s with heap:=h',toks:=t' }:=by
  obtain ⟨m,⟨o,es,ep,ho,r⟩,_⟩:=id I.loc
  obtain ⟨sl,hL⟩:=u.any ho I.free (by simp)
  exact I.step (g':=s.gens) (d':=s.drawn) (ch:=[]) (fun _ z=>nomatch z) (fun b o _ hb _ e n=>u.keep b o e n hb (by simp)) (fun b o _ hb _ e n=>u.slot b o e n hb (by simp)) (fun b o _ e n=>u.free b o e n (by simp)) (fun b o _ e=>u.there b o e (by simp)) u.tups u.frzs u.tbls (fun m' hm=>by
    obtain ⟨o',es',ep',ho',r'⟩:=hm
    rw [ho] at ho';cases ho'
    exact ⟨_,es',ep',hL,r'⟩) hok I.bare
theorem Inv.call {g':Array GenState} {t':Nat} {d':Drawn} {ch:List Addr} (I:Inv X pins σ H s) (u:Un (frs X.stack) ch H H' s.heap h') (hok:HOk X.prog X.w H' h') (hg:AllBare g')
    (hch:∀ b∈ch,(b∈X.ex∨X.s₀.heap.objs.size≤b)∧b≠X.env.locals∧(∀ x c,X.env.cells.lookup x=some c→c≠b)∧∀ p∈X.pn++pins,p.1≠b) :
    Inv X pins σ H' { s with heap:=h',gens:=g',drawn:=d',toks:=t' }:=by
  obtain ⟨m,⟨o,es,ep,ho,r⟩,_⟩:=id I.loc
  obtain ⟨sl,hL⟩:=u.any ho I.free fun z=>(hch _ z).2.1 rfl
  exact I.step (ch:=ch) hch (fun b o hL hb hc e n=>u.keep b o e n (fun z=>(List.mem_cons.mp (I.stkSub b z)).elim hL hb) hc) (fun b o _ _ hc e n=>u.any e n hc) (fun b o hc e n=>u.free b o e n hc) (fun b o hc e=>u.there b o e hc) u.tups u.frzs u.tbls (fun m' hm=>by
    obtain ⟨o',es',ep',ho',r'⟩:=hm
    rw [ho] at ho';cases ho'
    exact ⟨_,es',ep',hL,r'⟩) hok hg
theorem Inv.turned {t':Nat} {it:Addr} (I:Inv X pins σ H s) (k:∀ b o,b≠it→s.heap.get? b=some o→h'.get? b=some o) (hn:H it=none) (hL:it≠X.env.locals)
    (h1:it∈X.ex∨X.s₀.heap.objs.size≤it) (h2:∀ x c,X.env.cells.lookup x=some c→c≠it) (h3:∀ p∈X.pn++pins,p.1≠it):Inv X pins σ H { s with heap:=h',toks:=t' }:=by
  have nit:∀ b u,H b=some u→b≠it:=fun b u e z=>by rw [z,hn] at e;cases e
  refine I.step (g':=s.gens) (d':=s.drawn) (ch:=[it]) (fun b hb=>?_) (fun b o _ _ hc e _=>k b o (fun z=>hc (by simp [z])) e) (fun b o _ _ hc e _=>⟨o.slots,k b o (fun z=>hc (by simp [z])) e⟩) (fun _ _ _ _ n=>n)
    (fun b o hc e=>⟨o,k b o (fun z=>hc (by simp [z])) e⟩) (fun _ _ e=>e) (fun _ _ _ e=>e) (fun b ps e=>⟨#[],by rw [e];simp⟩) (fun m hm=>?_) (fun b u e=>?_) I.bare
  · have e:b=it:=by simpa using hb
    subst e
    exact ⟨h1,hL,h2,h3⟩
  · obtain ⟨o,es,ep,ho,r⟩:=hm
    exact ⟨o,es,ep,k _ o (Ne.symm hL) ho,r⟩
  · refine (I.hok b u e).stay (fun c v hc q=>k c v ?_ q) (fun _ q=>q) (fun _ _ q=>q) fun _ _ _ q=>q
    rcases hc with z | z
    · rw [z];exact nit b u e
    · exact nit c _ z
theorem Inv.tok (I:Inv X pins σ H s) (t:Nat):Inv X pins σ H { s with toks:=t }:=I.un (h':=s.heap) (t':=t) Un.refl I.hok
theorem Inv.kept {t':Nat} (I:Inv X pins σ H s) (k:∀ b u,s.heap.get? b=some u→h'.get? b=some u):Inv X pins σ H { s with heap:=h',toks:=t' }:=I.un (Un.kept k) (I.hok.kept k)
theorem Inv.laid {a:Addr} {o:HO} {t':Nat} (I:Inv X pins σ H s) (k:∀ b u,s.heap.get? b=some u→h'.get? b=some u) (hp:s.heap.objs.size≤a) (new:ObjOk X.prog X.w (upd H a o) h' a o) :
    Inv X pins σ (upd H a o) { s with heap:=h',toks:=t' }:=I.un (Un.laid k hp (I.hok.fresh hp)) (I.hok.laid k hp new)
theorem Inv.write {x e:Addr} {o:HO} {t':Nat} (I:Inv X pins σ H s) (mu:Mut (H x)) (he:e=x∨H e=some (.own x)) (k:∀ b u,b≠e→s.heap.get? b=some u→h'.get? b=some u) (heo:∃ u,h'.get? e=some u)
    (new:ObjOk X.prog X.w (upd H x o) h' x o):Inv X pins σ (upd H x o) { s with heap:=h',toks:=t' }:=I.un (Un.write mu he k heo) (I.hok.write mu he k heo new)
theorem Inv.weak {σ':List (Option V)} (I:Inv X pins σ H s) (hl:σ'.length=σ.length) (w:∀ (i:Nat) v,σ'[i]? = some (some v)→σ[i]? = some (some v)):Inv X pins σ' H s :=
  ⟨I.ok,I.os,I.bare,I.base,let ⟨m,hn,hl'⟩:=I.loc;⟨m,hn,fun i x v e1 e2 e3=>hl' i x v e1 (w i v e2) e3⟩,I.cell,I.free,I.freeC,I.pin,I.hok,hl.trans I.len⟩
theorem Inv.pins_of {pins':List (Addr × Obj)} (I:Inv X pins σ H s) (h:∀ p∈pins',s.heap.get? p.1=some p.2∧H p.1=none∧p.1≠X.env.locals∧p.1∉X.fs∧∀ v,p.2.data≠.cell v):Inv X pins' σ H s :=
  ⟨I.ok,I.os,I.bare,I.base,I.loc,I.cell,I.free,I.freeC,fun p hp=>(List.mem_append.mp hp).elim (fun z=>I.pin p (List.mem_append_left _ z)) (h p),I.hok,I.len⟩
theorem nodup_ix {N:List Str} (hN:N.Nodup) {i j:Nat} {x:Str} (a:N[i]? = some x) (b:N[j]? = some x):i=j:=by
  obtain ⟨h1,e1⟩:=List.getElem?_eq_some_iff.mp a
  obtain ⟨h2,e2⟩:=List.getElem?_eq_some_iff.mp b
  exact (List.getElem_inj hN).mp (e1.trans e2.symm)
theorem store_ok2 {M:Model} {A:Around} {E:Value→Shared→Prop} {i:Nat} {x:Str} {v:V} {u:Value} {Q:Unit→Shared→Prop} (I:Inv X pins σ H s) (hN:X.N.Nodup) (hi:X.N[i]? = some x) (hx:Loc X.env.scope x) (r:RelV v u)
    (h:∀ s',Inv X pins (σ.set i (some v)) H s'→(∃ a,Heap.SameBut a s.heap s'.heap∧(a=X.env.locals∨X.env.cells.lookup x=some a))→Q () s') (hf:X.fn x=true∨X.env.scope.names.lookup x=some .local:=by first | exact .inl rfl | exact .inr rfl | assumption):wpAny M A (storeName X.env x u) Q E s:=by
  obtain ⟨m,hn,hl⟩:=id I.loc
  have hcls:(X.env.scope.kind==.class || (X.env.scope.kind==.module&&X.env.locals != X.env.globals))=false:=by rw [I.ok.kind];rfl
  have hiσ:i<σ.length:=by rw [I.len];exact (List.getElem?_eq_some_iff.mp hi).1
  have cne:=I.cne
  have tracked:∀ {a:Addr} {h':Heap},(∃ o,s.heap.get? a=some o∧H a=none)→Heap.SameBut a s.heap h'→HOk X.prog X.w H h':=fun {a h'} ha hs b ob e=>by
    obtain ⟨_,_,hfree⟩:=ha
    refine (I.hok b ob e).stay (fun c w' hc q=>(hs.2 c ?_).trans q) (fun _ q=>q) (fun _ _ q=>q) fun _ _ _ q=>q
    rintro rfl
    rcases hc with rfl | hc
    · rw [hfree] at e;cases e
    · rw [hfree] at hc;cases hc
  rcases hx with hk | hk
  · refine wpAny_storeName_local hk hn (fun h' hn' hs=>?_) hcls
    obtain ⟨oL,_,_,hoL,_⟩:=id hn
    refine h _ ⟨I.ok,I.os,I.bare,⟨fun b o e n hb hx=>?_,fun b o e n hb hx=>?_,I.base.free,fun b o e hx=>?_,I.base.tups,I.base.frzs,I.base.tbls⟩,⟨_,hn',fun j y v' e1 e2 e3=>?_⟩,fun y c e=>?_,I.free,I.freeC,fun p hp=>?_,tracked ⟨oL,hoL,I.free⟩ hs,by simpa using I.len⟩ ⟨_,hs,.inl rfl⟩
    · exact (hs.2 b (Nat.ne_of_lt (Nat.lt_of_lt_of_le (Heap.lt_size e) I.ok.above))).trans (I.base.keep b o e n hb hx)
    · obtain ⟨sl,e1⟩:=I.base.slot b o e n hb hx
      exact ⟨sl,(hs.2 b (Nat.ne_of_lt (Nat.lt_of_lt_of_le (Heap.lt_size e) I.ok.above))).trans e1⟩
    · obtain ⟨o',e1⟩:=I.base.there b o e hx
      exact ⟨o',(hs.2 b (Nat.ne_of_lt (Nat.lt_of_lt_of_le (Heap.lt_size e) I.ok.above))).trans e1⟩
    · by_cases hj:j=i
      · subst hj
        rw [hi] at e1;cases e1
        rw [List.getElem?_set_self hiσ] at e2
        cases e2
        exact ⟨u,r,.inl ⟨hk,by simp⟩⟩
      · rw [List.getElem?_set_ne (Ne.symm hj)] at e2
        obtain ⟨u',r',q⟩:=hl j y v' e1 e2 e3
        refine ⟨u',r',?_⟩
        rcases q with ⟨k,e⟩ | ⟨k,c,e,z⟩
        · refine .inl ⟨k,?_⟩
          have:y≠x:=fun e=>hj (nodup_ix hN e1 (e ▸ hi))
          simp [this,e]
        · exact .inr ⟨k,c,e,z.sameBut hs (cne y c e)⟩
    · obtain ⟨w',z⟩:=I.cell y c e
      exact ⟨w',z.sameBut hs (cne y c e)⟩
    · obtain ⟨e,n,ne,nf,d⟩:=I.pin p hp
      exact ⟨(hs.2 p.1 ne).trans e,n,ne,nf,d⟩
  · have hfn:X.fn x=true:=by
      rcases hf with z | z
      · exact z
      · rw [z] at hk;cases hk
    obtain ⟨c,hc⟩:=I.ok.has x (.inl hk)
    obtain ⟨w',z⟩:=I.cell x c hc
    refine wpAny_storeName_cell I.ok.kind hk hc z (fun h' hc' hs=>?_)
    obtain ⟨oc,hoc,hocd⟩:=id z
    refine h { s with heap:=h' } ⟨I.ok,I.os,I.bare,⟨fun b o e n hb hx=>?_,fun b o e n hb hx=>?_,I.base.free,fun b o e hx=>?_,I.base.tups,I.base.frzs,I.base.tbls⟩,⟨m,hn.sameBut hs (Ne.symm (cne x c hc)),fun j y v' e1 e2 e3=>?_⟩,fun y c' e=>?_,I.free,I.freeC,fun p hp=>?_,tracked ⟨oc,hoc,I.freeC x c hc⟩ hs,by simpa using I.len⟩ ⟨c,hs,.inr hc⟩
    · exact (hs.2 b (Nat.ne_of_lt (Nat.lt_of_lt_of_le (Heap.lt_size e) (I.ok.cab x c hfn hc)))).trans (I.base.keep b o e n hb hx)
    · obtain ⟨sl,e1⟩:=I.base.slot b o e n hb hx
      exact ⟨sl,(hs.2 b (Nat.ne_of_lt (Nat.lt_of_lt_of_le (Heap.lt_size e) (I.ok.cab x c hfn hc)))).trans e1⟩
    · obtain ⟨o',e1⟩:=I.base.there b o e hx
      exact ⟨o',(hs.2 b (Nat.ne_of_lt (Nat.lt_of_lt_of_le (Heap.lt_size e) (I.ok.cab x c hfn hc)))).trans e1⟩
    · by_cases hj:j=i
      · subst hj
        rw [hi] at e1;cases e1
        rw [List.getElem?_set_self hiσ] at e2
        cases e2
        exact ⟨u,r,.inr ⟨.inl hk,c,hc,hc'⟩⟩
      · rw [List.getElem?_set_ne (Ne.symm hj)] at e2
        obtain ⟨u',r',q⟩:=hl j y v' e1 e2 e3
        refine ⟨u',r',?_⟩
        rcases q with q | ⟨k,c',e,z'⟩
        · exact .inl q
        · refine .inr ⟨k,c',e,z'.sameBut hs ?_⟩
          rintro rfl
          exact hj (nodup_ix hN e1 (I.ok.inj _ _ _ e hc ▸ hi))
    · by_cases hcc:c' = c
      · subst hcc;exact ⟨_,hc'⟩
      · obtain ⟨w2,z2⟩:=I.cell y c' e
        exact ⟨w2,z2.sameBut hs hcc⟩
    · obtain ⟨e,n,ne,nf,d⟩:=I.pin p hp
      refine ⟨(hs.2 p.1 ?_).trans e,n,ne,nf,d⟩
      intro q
      rw [q,hoc] at e
      have q':oc=p.2:=Option.some.inj e
      exact d w' (by rw [← q'];exact hocd)
theorem store_ok {M:Model} {A:Around} {E:Value→Shared→Prop} {i:Nat} {x:Str} {v:V} {u:Value} {Q:Unit→Shared→Prop} (I:Inv X pins σ H s) (hN:X.N.Nodup) (hi:X.N[i]? = some x) (hx:Loc X.env.scope x) (r:RelV v u)
    (h:∀ s',Inv X pins (σ.set i (some v)) H s'→Q () s') (hf:X.fn x=true∨X.env.scope.names.lookup x=some .local:=by first | exact .inl rfl | exact .inr rfl | assumption):wpAny M A (storeName X.env x u) Q E s :=
  store_ok2 I hN hi hx r (fun s' I' _=>h s' I') hf
theorem Inv.call' {s':Shared} {ch:List Addr} (I:Inv X pins σ H s) (ho:s'.os=s.os) (u:Un (frs X.stack) ch H H' s.heap s'.heap) (hok:HOk X.prog X.w H' s'.heap) (hg:AllBare s'.gens)
    (hch:∀ b∈ch,(b∈X.ex∨X.s₀.heap.objs.size≤b)∧b≠X.env.locals∧(∀ x c,X.env.cells.lookup x=some c→c≠b)∧∀ p∈X.pn++pins,p.1≠b):Inv X pins σ H' s':=by
  obtain ⟨h',g',d',t',o'⟩:=s'
  have e:o' = s.os:=ho
  subst e
  exact I.call (g':=g') (t':=t') (d':=d') u hok hg hch
end
abbrev XK:=Value→Option Addr→Hp→Prop
abbrev St:=List (Option V)
abbrev VK:=V→Hp→Prop
abbrev TE:=St→Hp→VK→Prop
abbrev TT:=St→Hp→(Bool→Hp→Prop)→Prop
abbrev TA:=St→Hp→(List V→Hp→Prop)→Prop
structure Ends where
  nx:St→Hp→Prop
  rt:VK
  bk:St→Hp→Prop:=fun _ _=>False
  ct:St→Hp→Prop:=fun _ _=>False
abbrev TS:=Ends→St→Hp→Prop
def EP (X:Cx) (pins:List (Addr × Obj)) (σ:St) (Q:VK) (u:Value) (s':Shared):Prop:=∃ v H',Inv X pins σ H' s'∧RelV v u∧Q v H'
def TP (X:Cx) (pins:List (Addr × Obj)) (σ:St) (Q:Bool→Hp→Prop) (b:Bool) (s':Shared):Prop:=∃ H',Inv X pins σ H' s'∧Q b H'
def AP (X:Cx) (pins:List (Addr × Obj)) (σ:St) (Q:List V→Hp→Prop) (us:List Value) (s':Shared):Prop:=∃ vs H',Inv X pins σ H' s'∧Vals vs us∧Q vs H'
def SP (X:Cx) (pins:List (Addr × Obj)) (D:Ends) (f:Flow) (s':Shared):Prop :=
  match f with
  | .next=>∃ σ' H',Inv X pins σ' H' s'∧D.nx σ' H'
  | .brk=>∃ σ' H',Inv X pins σ' H' s'∧D.bk σ' H'
  | .cont=>∃ σ' H',Inv X pins σ' H' s'∧D.ct σ' H'
  | .ret u=>∃ v σ' H',Inv X pins σ' H' s'∧RelV v u∧D.rt v H'
def PE (X:Cx) (e:Expr) (t:TE):Prop :=
  ∀ (pins:List (Addr × Obj)) (s:Shared) (σ:St) (H:Hp) (Q:VK),Inv X pins σ H s→t σ H Q→wpAny (model X.prog X.w) X.A (eval e X.env) (EP X pins σ Q) X.xe s
def PT (X:Cx) (e:Expr) (t:TT):Prop :=
  ∀ (pins:List (Addr × Obj)) (s:Shared) (σ:St) (H:Hp) (Q:Bool→Hp→Prop),Inv X pins σ H s→t σ H Q→wpAny (model X.prog X.w) X.A (isTrue e X.env (eval e X.env)) (TP X pins σ Q) X.xe s
def PW (X:Cx) (e:Expr) (t:TT):Prop :=
  ∀ (whole:Sem Value) (pins:List (Addr × Obj)) (s:Shared) (σ:St) (H:Hp) (Q:Bool→Hp→Prop),Inv X pins σ H s→t σ H Q→wpAny (model X.prog X.w) X.A (isTrue e X.env whole) (TP X pins σ Q) X.xe s
theorem PW.pt {X:Cx} {e:Expr} {t:TT} (h:PW X e t):PT X e t:=h _
def PA (X:Cx) (es:List Expr) (t:TA):Prop :=
  ∀ (pos:Pos) (pins:List (Addr × Obj)) (s:Shared) (σ:St) (H:Hp) (Q:List V→Hp→Prop),Inv X pins σ H s→t σ H Q→wpAny (model X.prog X.w) X.A (spliced (backTo pos (starEach es X.env))) (AP X pins σ Q) X.xe s
def PS (X:Cx) (st:Stmt) (t:TS):Prop :=
  ∀ (pins:List (Addr × Obj)) (s:Shared) (σ:St) (H:Hp) (D:Ends),Inv X pins σ H s→t D σ H→wpAny (model X.prog X.w) X.A (exec st X.env) (SP X pins D) X.xe s
def PSs (X:Cx) (st:List Stmt) (t:TS):Prop :=
  ∀ (pins:List (Addr × Obj)) (s:Shared) (σ:St) (H:Hp) (D:Ends),Inv X pins σ H s→t D σ H→wpAny (model X.prog X.w) X.A (execs st X.env) (SP X pins D) X.xe s
theorem thn {α:Type} {t:Sem α} {Q Q':α→Shared→Prop} {M:Model} {A:Around} {E:Value→Shared→Prop} {s:Shared} (h:wpAny M A t Q E s) (hQ:∀ a s,Q a s→Q' a s):wpAny M A t Q' E s:=wpAny_mono h hQ fun _ _ x=>x
end L2
namespace L2
open PySem PySem.Spec PyProof.Rows
section
variable {X:Cx}
def tVar (i:Nat):TE:=fun σ H Q=>∃ v,σ[i]? = some (some v)∧Q v H
def tC (v:V):TE:=fun _ H Q=>Q v H
theorem pe_var {i:Nat} {x:Str} {pos:Pos} (hN:X.N[i]? = some x) (hv:Vis X.env.scope x) (hd:(x==("__debug__" : Str))=false:=by decide) (hcd:(x==("__classdict__" : Str))=false:=by decide):PE X (.Name x pos) (tVar i):=by
  intro pins s σ H Q I h
  obtain ⟨v,e,h⟩:=h
  obtain ⟨m,hn,hl⟩:=I.loc
  obtain ⟨u,r,l⟩:=hl i x v hN e hv
  have fin:EP X pins σ Q u s:=⟨v,H,I,r,h⟩
  rcases l with ⟨hk,hm⟩ | ⟨hk,c,hc,hcell⟩
  · exact wpAny_Name (wpAny_loadName_local I.ok.kind hk hn hm fin) hd
  · rcases hk with hk | hk
    · exact wpAny_Name (wpAny_loadName_cell I.ok.kind hk hc hcell fin) hd
    · exact wpAny_Name (wpAny_loadName_free I.ok.kind hk hc hcell fin hcd) hd
theorem pe_int {i j pos}:PE X (.Constant (.int i) j pos) (tC (.int i)):=fun _ _ _ H _ I h=>wpAny_Constant_int ⟨.int i,H,I.tok _,⟨_,rfl⟩,h⟩
theorem pe_bl {b j pos}:PE X (.Constant (.bool b) j pos) (tC (.bl b)):=fun _ _ _ H _ I h=>Constant_bool ⟨.bl b,H,I,rfl,h⟩
def Gl (X:Cx) (x:Str):Prop:=X.env.kindOf x=some .globalImplicit
theorem ld_glob {E:Value→Shared→Prop} {pins:List (Addr × Obj)} {s:Shared} {σ:St} {H:Hp} {x:Str} {u:Value} {pos:Pos} {Q:Value→Shared→Prop} (I:Inv X pins σ H s) (hg:Gl X x) (hm:X.mg x=some u) (h:Q u s)
    (hd:(x==("__debug__" : Str))=false:=by decide):wpAny (model X.prog X.w) X.A (eval (.Name x pos) X.env) Q E s :=
  Calls.Name_function_global I.ok.kind hg (Calls.loadGlobal_global (by rw [I.ok.glob];exact I.mod.glob.keeps I.bk) hm h) hd
theorem ld_blt {E:Value→Shared→Prop} {pins:List (Addr × Obj)} {s:Shared} {σ:St} {H:Hp} {x:Str} {u:Value} {pos:Pos} {Q:Value→Shared→Prop} (I:Inv X pins σ H s) (hg:Gl X x) (hm:X.mg x=none) (hv:bootBuiltins x=some u) (h:Q u s)
    (hn:x ≠ "__name__" := by decide) (hd:(x==("__debug__" : Str))=false:=by decide):wpAny (model X.prog X.w) X.A (eval (.Name x pos) X.env) Q E s:=by
  obtain ⟨mb,h1,h2⟩:=I.mod.blt
  exact Calls.Name_function_global I.ok.kind hg (Calls.loadGlobal_builtin (by rw [I.ok.glob];exact I.mod.glob.keeps I.bk) hm (by rw [I.ok.blt];exact h1.keeps I.bk) ((h2 x hn).trans hv) h) hd
theorem pe_bltn {x:Str} {v:V} {u:Value} {pos:Pos} (hg:Gl X x) (hm:X.mg x=none) (hv:bootBuiltins x=some u) (r:RelV v u) (hn:x ≠ "__name__" := by decide) (hd:(x==("__debug__" : Str))=false:=by decide):PE X (.Name x pos) (tC v) :=
  fun _ _ _ H _ I h=>ld_blt I hg hm hv ⟨v,H,I,r,h⟩ hn hd
variable {a b:Expr} {ta tb:TE} {pos:Pos}
variable {tA tB':TT} {rest:List Expr}
def tAnd (t u:TT):TT:=fun σ H Q=>t σ H fun c H1=>if c=true then u σ H1 Q else Q false H1
def tOr (t u:TT):TT:=fun σ H Q=>t σ H fun c H1=>if c=true then Q true H1 else u σ H1 Q
def tNot (t:TT):TT:=fun σ H Q=>t σ H fun c H1=>Q (!c) H1
theorem pw_and1 (ha:PT X a tA):PW X (.BoolOp .And [a] pos) tA:=by
  intro wh pins s σ H Q I h
  refine isTrue_and (thn (ha pins s σ H Q I h) fun c s1 e=>?_)
  cases c with
  | true=>exact isTrue_and_nil e
  | false=>exact e
theorem pw_or1 (ha:PT X a tA):PW X (.BoolOp .Or [a] pos) tA:=by
  intro wh pins s σ H Q I h
  refine isTrue_or (thn (ha pins s σ H Q I h) fun c s1 e=>?_)
  cases c with
  | false=>exact isTrue_or_nil e
  | true=>exact e
theorem pw_and (ha:PT X a tA) (hb:PW X (.BoolOp .And (b::rest) pos) tB'):PW X (.BoolOp .And (a::b::rest) pos) (tAnd tA tB'):=by
  intro wh pins s σ H Q I h
  refine isTrue_and (thn (ha pins s σ H _ I h) fun c s1 ⟨H1,I1,q1⟩=>?_)
  cases c with
  | true=>exact hb wh pins s1 σ H1 Q I1 q1
  | false=>exact ⟨H1,I1,q1⟩
theorem pw_or (ha:PT X a tA) (hb:PW X (.BoolOp .Or (b::rest) pos) tB'):PW X (.BoolOp .Or (a::b::rest) pos) (tOr tA tB'):=by
  intro wh pins s σ H Q I h
  refine isTrue_or (thn (ha pins s σ H _ I h) fun c s1 ⟨H1,I1,q1⟩=>?_)
  cases c with
  | true=>exact ⟨H1,I1,q1⟩
  | false=>exact hb wh pins s1 σ H1 Q I1 q1
theorem pt_not (ha:PT X a tA):PT X (.UnaryOp .Not a pos) (tNot tA):=by
  intro pins s σ H Q I h
  exact isTrue_not (ha pins s σ H (fun c H1=>Q (!c) H1) I h)
def tAndV (ta tb:TE):TE:=fun σ H Q=>ta σ H fun x H1=>∃ c,x = .bl c∧if c=true then tb σ H1 Q else Q (.bl false) H1
def tOrV (ta tb:TE):TE:=fun σ H Q=>ta σ H fun x H1=>∃ c,x = .bl c∧if c=true then Q (.bl true) H1 else tb σ H1 Q
def tNotV (ta:TE):TE:=fun σ H Q=>ta σ H fun x H1=>∃ c,x = .bl c∧Q (.bl (!c)) H1
theorem pe_one {op} {t:TE} (h:PE X a t):PE X (.BoolOp op [a] pos) t:=fun pins s σ H Q I hw=>BoolOp_one (h pins s σ H Q I hw)
theorem pe_and (ha:PE X a ta) (hb:PE X (.BoolOp .And (b::rest) pos) tb):PE X (.BoolOp .And (a::b::rest) pos) (tAndV ta tb):=by
  intro pins s σ H Q I h
  refine BoolOp_and (thn (ha pins s σ H _ I h) fun v s1 ⟨x,H1,I1,r1,q1⟩=>?_)
  obtain ⟨c,rfl,q1⟩:=q1
  cases r1
  refine wpAny_truthy_bool ?_
  cases c with
  | true=>exact hb pins s1 σ H1 Q I1 q1
  | false=>exact ⟨.bl false,H1,I1,rfl,q1⟩
theorem pe_or (ha:PE X a ta) (hb:PE X (.BoolOp .Or (b::rest) pos) tb):PE X (.BoolOp .Or (a::b::rest) pos) (tOrV ta tb):=by
  intro pins s σ H Q I h
  refine BoolOp_or (thn (ha pins s σ H _ I h) fun v s1 ⟨x,H1,I1,r1,q1⟩=>?_)
  obtain ⟨c,rfl,q1⟩:=q1
  cases r1
  refine wpAny_truthy_bool ?_
  cases c with
  | false=>exact hb pins s1 σ H1 Q I1 q1
  | true=>exact ⟨.bl true,H1,I1,rfl,q1⟩
theorem pe_not (ha:PE X a ta):PE X (.UnaryOp .Not a pos) (tNotV ta):=by
  intro pins s σ H Q I h
  refine UnaryOp_ (thn (ha pins s σ H _ I h) fun v s1 ⟨x,H1,I1,r1,q1⟩=>?_)
  obtain ⟨c,rfl,q1⟩:=q1
  cases r1
  exact not_of (wpAny_truthy_bool ⟨.bl (!c),H1,I1,rfl,q1⟩)
end
end L2
namespace L2
open PySem PySem.Spec PyProof.Rows
def SqL (K:PySem.W.Frag) (H:Hp) (a:Addr) (xs:List V):Prop :=
  Rd H a (.lst xs) ∨
    ∃ (o:Obj) (its:Array Value) (n:Nat),K.lookup a=some o∧o.cls = .type "list" ∧ o.dict=none∧o.data = .seq its n∧its.size≤sizeLine∧Vals xs its.toList
def SqT (K:PySem.W.Frag) (H:Hp) (a:Addr) (xs:List V):Prop :=
  Rd H a (.tup xs) ∨
    ∃ (o:Obj) (its:Array Value) (n:Nat),K.lookup a=some o∧o.cls = .type "tuple" ∧ o.data = .seq its n∧its.size≤sizeLine∧Vals xs its.toList
def absV:Value→Option V
  | .none=>some .non
  | .bool b=>some (.bl b)
  | .int i _=>some (.int i)
  | .str x _=>some (.str x)
  | .bytes b _=>some (.byt b)
  | .float b _=>some (.flt b)
  | .ref a=>some (.ref a)
  | .type n=>some (.ty n)
  | _=>none
theorem RelV.abs {x:V} {u:Value} (r:RelV x u):absV u=some x:=by
  cases x with
  | non=>cases r;rfl
  | bl _=>cases r;rfl
  | int _=>obtain ⟨t,rfl⟩:=r;rfl
  | str _=>obtain ⟨t,rfl⟩:=r;rfl
  | byt _=>obtain ⟨t,rfl⟩:=r;rfl
  | flt _=>obtain ⟨t,rfl⟩:=r;rfl
  | ref _=>cases r;rfl
  | ty _=>cases r;rfl
theorem RelV.inj {x y:V} {u:Value} (r:RelV x u) (q:RelV y u):x=y:=Option.some.inj (r.abs.symm.trans q.abs)
theorem Vals.inj:∀ {xs ys:List V} {us:List Value},Vals xs us→Vals ys us→xs=ys
  | _,_,_,.nil,.nil=>rfl
  | _,_,_,.cons r t,.cons r' t'=>by rw [r.inj r',Vals.inj t t']
section
variable {X:Cx} {pins:List (Addr × Obj)} {σ:St} {H:Hp} {s:Shared} {a:Addr} {xs ys:List V}
theorem SqL.of {K:PySem.W.Frag} (h:H a=some (.lst xs)):SqL K H a xs:=.inl (.inl h)
theorem SqT.of {K:PySem.W.Frag} (h:H a=some (.tup xs)):SqT K H a xs:=.inl (.inl h)
theorem Inv.list (I:Inv X pins σ H s) (h:SqL X.K H a xs):∃ its:List Value,Vals xs its∧PlainL s.heap a its.toArray∧xs.length≤sizeLine:=by
  rcases h with h | ⟨o,its,n,hk,hc,hd,hs,hz,r⟩
  · obtain ⟨z,its,n,r,e⟩:=h.ok I.hok
    exact ⟨its,r,⟨_,n,e,rfl,rfl,rfl⟩,z⟩
  · refine ⟨its.toList,r,⟨o,n,I.kIn a o hk,hc,hd,by simpa using hs⟩,?_⟩
    have e:=r.length
    simp only [Array.length_toList] at e
    omega
theorem Inv.tuple (I:Inv X pins σ H s) (h:SqT X.K H a xs):∃ its:List Value,Vals xs its∧IsTup s.heap a its.toArray∧xs.length≤sizeLine:=by
  rcases h with h | ⟨o,its,n,hk,hc,hs,hz,r⟩
  · obtain ⟨z,its,r,p⟩:=h.ok I.hok
    exact ⟨its,r,p,z⟩
  · refine ⟨its.toList,r,⟨o,I.kIn a o hk,hc,n,by simpa using hs⟩,?_⟩
    have e:=r.length
    simp only [Array.length_toList] at e
    omega
theorem Inv.list_inj (I:Inv X pins σ H s) (h:SqL X.K H a xs) (h':SqL X.K H a ys):xs=ys:=by
  obtain ⟨its,r,⟨o,n,e,_,_,d⟩,_⟩:=I.list h
  obtain ⟨its',r',⟨o',n',e',_,_,d'⟩,_⟩:=I.list h'
  rw [e] at e';cases e'
  rw [d] at d'
  injection d' with d1 _
  have:its=its':=by simpa using congrArg Array.toList d1
  subst this
  exact r.inj r'
theorem Inv.tuple_inj (I:Inv X pins σ H s) (h:SqT X.K H a xs) (h':SqT X.K H a ys):xs=ys:=by
  obtain ⟨its,r,⟨o,e,_,n,d⟩,_⟩:=I.tuple h
  obtain ⟨its',r',⟨o',e',_,n',d'⟩,_⟩:=I.tuple h'
  rw [e] at e';cases e'
  rw [d] at d'
  injection d' with d1 _
  have:its=its':=by simpa using congrArg Array.toList d1
  subst this
  exact r.inj r'
end
abbrev Cx.wish (X:Cx) (E:Value→Shared→Prop):Cx:={ X with xe:=E }
abbrev Cx.nox (X:Cx):Cx:=X.wish fun _ _=>False
theorem Cx.Ok.wish {X:Cx} (ok:X.Ok) (E:Value→Shared→Prop):(X.wish E).Ok :=
  ⟨ok.mod,ok.kind,ok.glob,ok.blt,ok.above,ok.inj,ok.has,ok.cab,ok.hd,ok.frames,ok.stk,ok.exf,ok.bs,ok.bsz,ok.noex,ok.exfs,ok.funs,ok.frf⟩
theorem Cx.Ok.unwish {X:Cx} {E:Value→Shared→Prop} (ok:(X.wish E).Ok):X.Ok :=
  ⟨ok.mod,ok.kind,ok.glob,ok.blt,ok.above,ok.inj,ok.has,ok.cab,ok.hd,ok.frames,ok.stk,ok.exf,ok.bs,ok.bsz,ok.noex,ok.exfs,ok.funs,ok.frf⟩
section
variable {X:Cx} {pins:List (Addr × Obj)} {σ:St} {H:Hp} {s:Shared} {E:Value→Shared→Prop}
theorem Inv.wish (I:Inv X pins σ H s) (E:Value→Shared→Prop):Inv (X.wish E) pins σ H s:=⟨I.ok.wish E,I.os,I.bare,I.base,I.loc,I.cell,I.free,I.freeC,I.pin,I.hok,I.len⟩
theorem Inv.unwish (I:Inv (X.wish E) pins σ H s):Inv X pins σ H s:=⟨I.ok.unwish,I.os,I.bare,I.base,I.loc,I.cell,I.free,I.freeC,I.pin,I.hok,I.len⟩
theorem SP.unwish {D:Ends} {f:Flow} {s':Shared} (h:SP (X.wish E) pins D f s'):SP X pins D f s':=by
  cases f with
  | next=>obtain ⟨σ',H',I,q⟩:=h;exact ⟨σ',H',I.unwish,q⟩
  | brk=>obtain ⟨σ',H',I,q⟩:=h;exact ⟨σ',H',I.unwish,q⟩
  | cont=>obtain ⟨σ',H',I,q⟩:=h;exact ⟨σ',H',I.unwish,q⟩
  | ret u=>obtain ⟨v,σ',H',I,r,q⟩:=h;exact ⟨v,σ',H',I.unwish,r,q⟩
theorem PE.nox {e:Expr} {t:TE} (h:PE X.nox e t):PE X e t:=fun pins s σ H Q I hw =>
  wpAny_mono (h pins s σ H Q (I.wish _) hw) (fun _ _ ⟨v,H',I',r,q⟩=>⟨v,H',I'.unwish,r,q⟩) fun _ _ z=>False.elim z
theorem PT.nox {e:Expr} {t:TT} (h:PT X.nox e t):PT X e t:=fun pins s σ H Q I hw =>
  wpAny_mono (h pins s σ H Q (I.wish _) hw) (fun _ _ ⟨H',I',q⟩=>⟨H',I'.unwish,q⟩) fun _ _ z=>False.elim z
theorem PSs.nox {st:List Stmt} {t:TS} (h:PSs X.nox st t):PSs X st t:=fun pins s σ H D I hw =>
  wpAny_mono (h pins s σ H D (I.wish _) hw) (fun _ _ q=>q.unwish) fun _ _ z=>False.elim z
end
section
variable {X:Cx} {st:Stmt} {rest:List Stmt} {t u:TS} {e:Expr} {te:TE} {pos:Pos}
def tNext:TS:=fun D σ H=>D.nx σ H
def tSeq (t u:TS):TS:=fun D σ H=>t { D with nx:=u D } σ H
theorem pss_nil:PSs X [] tNext:=fun _ _ σ H _ I h=>wpAny_execs_nil ⟨σ,H,I,h⟩
theorem pss_cons (h1:PS X st t) (h2:PSs X rest u):PSs X (st::rest) (tSeq t u):=by
  intro pins s σ H D I h
  refine wpAny_execs_cons (thn (h1 pins s σ H { D with nx:=u D } I h) fun f s1 q=>?_)
  cases f with
  | next =>
    obtain ⟨σ',H',I',q⟩:=q
    exact h2 pins s1 σ' H' D I' q
  | ret v=>exact q
  | brk=>exact q
  | cont=>exact q
theorem pss_one (h1:PS X st t):PSs X [st] t:=by
  intro pins s σ H D I h
  refine wpAny_execs_cons (thn (h1 pins s σ H D I h) fun f s1 q=>?_)
  cases f with
  | next=>exact wpAny_execs_nil q
  | ret v=>exact q
  | brk=>exact q
  | cont=>exact q
theorem Inv.quiet {pins:List (Addr × Obj)} {σ:St} {H:Hp} {s:Shared} (I:Inv X pins σ H s):interactive X.env=false:=by simp [interactive,I.ok.kind]
def tDrop (te:TE):TS:=fun D σ H=>te σ H fun _ H1=>D.nx σ H1
theorem ps_expr (he:PE X e te) (hs:swapsWith e none pos.line X.env=pure false:=by rfl):PS X (.Expr e pos) (tDrop te):=by
  intro pins s σ H D I h
  exact wpAny_Expr_any (thn (he pins s σ H _ I h) fun v s1 ⟨x,H1,I1,r1,q1⟩=>⟨σ,H1,I1,q1⟩) I.quiet hs
def tRet (te:TE):TS:=fun D σ H=>te σ H D.rt
theorem ps_ret (he:PE X e te):PS X (.Return (some e) pos) (tRet te):=by
  intro pins s σ H D I h
  exact wpAny_Return_some (thn (he pins s σ H _ I h) fun v s1 ⟨x,H1,I1,r1,q1⟩=>⟨x,σ,H1,I1,r1,q1⟩)
def tIfS (c:TT) (t u:TS):TS:=fun D σ H=>c σ H fun b H1=>if b=true then t D σ H1 else u D σ H1
theorem ps_if {c:Expr} {a b:List Stmt} {tc:TT} (hc:PT X c tc) (ha:PSs X a t) (hb:PSs X b u):PS X (.If c a b pos) (tIfS tc t u):=by
  intro pins s σ H D I h
  refine wpAny_If (thn (hc pins s σ H _ I h) fun d s1 ⟨H1,I1,q1⟩=>?_)
  cases d with
  | true=>exact ha pins s1 σ H1 D I1 q1
  | false=>exact hb pins s1 σ H1 D I1 q1
end
abbrev TG:=V→St→Hp→(St→Hp→Prop)→Prop
abbrev TGs:=List V→St→Hp→(St→Hp→Prop)→Prop
def PG (X:Cx) (target:Expr) (t:TG):Prop :=
  ∀ (pins:List (Addr × Obj)) (s:Shared) (σ:St) (H:Hp) (v:V) (u:Value) (Q:St→Hp→Prop),Inv X pins σ H s→RelV v u→t v σ H Q →
    wpAny (model X.prog X.w) X.A (assign target X.env u) (fun _ s'=>∃ σ' H',Inv X pins σ' H' s'∧Q σ' H') X.xe s
def PGs (X:Cx) (ts:List Expr) (t:TGs):Prop :=
  ∀ (pins:List (Addr × Obj)) (s:Shared) (σ:St) (H:Hp) (vs:List V) (us:List Value) (Q:St→Hp→Prop),Inv X pins σ H s→Vals vs us→t vs σ H Q →
    wpAny (model X.prog X.w) X.A (assignInOrder ((assignEach ts X.env).map (·.2)) us) (fun _ s'=>∃ σ' H',Inv X pins σ' H' s'∧Q σ' H') X.xe s
abbrev TSet:=V→V→V→Hp→(Hp→Prop)→Prop
def PSet (X:Cx) (t:TSet):Prop :=
  ∀ (pins:List (Addr × Obj)) (s:Shared) (σ:St) (H:Hp) (o i v:V) (ov iv u:Value) (Q:Hp→Prop),Inv X pins σ H s→RelV o ov→RelV i iv→RelV v u→t o i v H Q →
    wpAny (model X.prog X.w) X.A (setItem ov iv u) (fun _ s'=>∃ H',Inv X pins σ H' s'∧Q H') X.xe s
section
variable {X:Cx} {pos:Pos}
def gName (i:Nat):TG:=fun v σ H Q=>Q (σ.set i (some v)) H
theorem pg_name {i:Nat} {x:Str} (hN:X.N.Nodup) (hi:X.N[i]? = some x) (hx:Loc X.env.scope x) (hf:X.fn x=true∨X.env.scope.names.lookup x=some .local:=by first | exact .inl rfl | exact .inr rfl | assumption):PG X (.Name x pos) (gName i):=by
  intro pins s σ H v u Q I r h
  exact wpAny_assign_Name (store_ok I hN hi hx r (fun s' I'=>⟨_,H,I',h⟩) hf)
def gNil:TGs:=fun vs σ H Q=>vs=[]∧Q σ H
def gCons (t:TG) (u:TGs):TGs:=fun vs σ H Q=>∃ v r,vs=v::r∧t v σ H fun σ' H'=>u r σ' H' Q
theorem pgs_nil:PGs X [] gNil:=by
  intro pins s σ H vs us Q I r h
  obtain ⟨e,h⟩:=h
  subst e
  cases r
  exact assignInOrder_nil ⟨σ,H,I,h⟩
theorem pgs_cons {e:Expr} {es:List Expr} {t:TG} {u:TGs} (h1:PG X e t) (h2:PGs X es u)
    (hs:(assignEach (e::es) X.env).map (·.2)=assign e X.env::(assignEach es X.env).map (·.2):=by rfl):PGs X (e::es) (gCons t u):=by
  intro pins s σ H vs us Q I r h
  obtain ⟨v,vr,e1,h⟩:=h
  subst e1
  cases r with
  | cons r rr =>
    rw [hs]
    refine assignInOrder_cons (thn (h1 pins s σ H _ _ _ I r h) fun _ s1 ⟨σ1,H1,I1,q1⟩=>?_)
    exact h2 pins s1 σ1 H1 _ _ Q I1 rr q1
def gTup (K:PySem.W.Frag) (n:Nat) (t:TGs):TG:=fun v σ H Q=>∃ a xs,v = .ref a∧SqT K H a xs∧xs.length=n∧t xs σ H Q
theorem pg_tup {es:List Expr} {k:Nat} {t:TGs} {n:Nat} (hc:X.calm=true) (h:PGs X es t)
    (hn:(assignEach es X.env).length=n:=by rfl) (hst:(assignEach es X.env).findIdx? (·.1)=none:=by rfl):PG X (.Tuple es k pos) (gTup X.K n t):=by
  intro pins s σ H v u Q I r hw
  obtain ⟨a,xs,e1,hq,hl,hw⟩:=hw
  subst e1
  cases r
  obtain ⟨its,rv,ht,hz⟩:=I.tuple hq
  refine assign_Tuple_tuple (I.ok.hd hc) ht (by simp [hn,← hl,rv.length]) hst fun h' hx=>?_
  have I1:Inv X pins σ H { s with heap:=h' }:=I.kept (t':=s.toks) fun b o e=>hx b o (Nat.ne_of_lt (Heap.lt_size e)) e
  exact h pins _ σ H xs _ Q I1 (by simpa using rv) hw
def gSub (to ti:TE) (t:TSet):TG:=fun v σ H Q=>to σ H fun o H1=>ti σ H1 fun i H2=>t o i v H2 fun H3=>Q σ H3
theorem pg_sub {o i:Expr} {to ti:TE} {t:TSet} (ho:PE X o to) (hi:PE X i ti) (hs:PSet X t)
    (ha:∀ v,assign (.Subscript o i pos) X.env v=(do
      let ov ← holding [v] (eval o X.env)
      let iv ← holding [v,ov] (eval i X.env)
      standAt pos
      holding [v,ov,iv] (setItem ov iv v)
      release [v,ov,iv] []):=by intro _;rfl):PG X (.Subscript o i pos) (gSub to ti t):=by
  intro pins s σ H v u Q I r h
  rw [ha]
  refine wpAny_bind (wpAny_holding (thn (ho pins s σ H _ I h) fun ov s1 ⟨x,H1,I1,r1,q1⟩=>?_))
  refine wpAny_bind (wpAny_holding (thn (hi pins s1 σ H1 _ I1 q1) fun iv s2 ⟨y,H2,I2,r2,q2⟩=>?_))
  refine wpAny_bind (wpAny_standAt (wpAny_bind (wpAny_holding (thn (hs pins s2 σ H2 x y v ov iv u _ I2 r1 r2 r q2) fun _ s3 ⟨H3,I3,q3⟩=>?_))))
  exact wpAny_release ⟨σ,H3,I3,q3⟩
def tAsg (te:TE) (g:TG):TS:=fun D σ H=>te σ H fun x H1=>g x σ H1 D.nx
theorem ps_asg {tg e:Expr} {te:TE} {g:TG} (he:PE X e te) (hg:PG X tg g) (hs:swapsWithSole [tg] e pos.line X.env=pure false:=by rfl) (hw:swappedStores [tg] e X.env=pure none:=by rfl)
    (h1:(assignEach [tg] X.env).map (·.2)=[assign tg X.env]:=by rfl):PS X (.Assign [tg] e pos) (tAsg te g):=by
  intro pins s σ H D I h
  refine wpAny_Assign_stores (thn (he pins s σ H _ I h) fun v s1 ⟨x,H1,I1,r1,q1⟩=>?_) hs hw
  rw [h1]
  exact thn (hg pins s1 σ H1 x v _ I1 r1 q1) fun _ s2 q=>q
theorem ps_set {i:Nat} {x:Str} {e:Expr} {te:TE} {pos':Pos} (hN:X.N.Nodup) (hi:X.N[i]? = some x) (hx:Loc X.env.scope x) (he:PE X e te) (hs:swapsWith e (some (.Name x pos')) pos.line X.env=pure false:=by rfl) (hf:X.fn x=true∨X.env.scope.names.lookup x=some .local:=by first | exact .inl rfl | exact .inr rfl | assumption) :
    PS X (.Assign [.Name x pos'] e pos) (tAsg te (gName i)):=by
  intro pins s σ H D I h
  refine wpAny_Assign_Name (thn (he pins s σ H _ I h) fun v s1 ⟨y,H1,I1,r1,q1⟩=>?_) hs
  exact store_ok I1 hN hi hx r1 (fun s2 I2=>⟨_,H1,I2,q1⟩) hf
def tPar (i j:Nat) (ta:TA):TS:=fun D σ H=>ta σ H fun vs H1=>∃ v w,vs=[v,w]∧D.nx ((σ.set i (some v)).set j (some w)) H1
theorem ps_par {i j:Nat} {x y:Str} {a b:Expr} {ta:TA} {px py pt:Pos} {kt k2 pt2} (hc:X.calm=true) (hN:X.N.Nodup) (hi:X.N[i]? = some x) (hj:X.N[j]? = some y) (hij:i≠j)
    (hx:X.env.scope.names.lookup x=some .local) (hy:X.env.scope.names.lookup y=some .local) (ha:PA X [a,b] ta)
    (hw:swappedStores [.Tuple [.Name x px,.Name y py] kt pt] (.Tuple [a,b] k2 pt2) X.env=pure (some [x,y]))
    (hs:swapsWithSole [.Tuple [.Name x px,.Name y py] kt pt] (.Tuple [a,b] k2 pt2) pos.line X.env=pure false:=by rfl) :
    PS X (.Assign [.Tuple [.Name x px,.Name y py] kt pt] (.Tuple [a,b] k2 pt2) pos) (tPar i j ta):=by
  intro pins s σ H D I h
  rw [exec_Assign_arm]
  refine wpAny_bind (wpAny_standAt ?_)
  rw [hs]
  refine wpAny_bind (wpAny_pure ?_)
  rw [if_neg (by decide)]
  refine wpAny_bind (Tuple_ (thn (ha _ pins s σ H _ I h) fun us s1 ⟨vs,H1,I1,r1,q1⟩=>?_))
  obtain ⟨v,w,e1,q1⟩:=q1
  subst e1
  obtain ⟨u1,u2,rfl,rv,rw'⟩:∃ u1 u2,us=[u1,u2]∧RelV v u1∧RelV w u2:=by
    cases r1 with
    | cons p q =>
      cases q with
      | cons p' q' =>
        cases q'
        exact ⟨_,_,rfl,p,p'⟩
  refine wpAny_newObj_type ?_ (by show 2≤sizeLine;decide)
  have I2:Inv X pins σ H1 { s1 with heap:=s1.heap.push { cls:=.type "tuple", data:=.seq [u1,u2].toArray } }:=I1.kept (t':=s1.toks) fun b o e=>Heap.get?_push_of_some _ e
  rw [hw]
  refine wpAny_bind (wpAny_pure ?_)
  show wpAny (model X.prog X.w) X.A (do rule "assign.swapped-stores"; let items ← unpackItems (.ref s1.heap.objs.size) 2 none;assignInOrder [fun v=>bindName X.env y v,fun v=>bindName X.env x v] items.reverse;pure Flow.next) _ _ _
  refine wpAny_bind (wpAny_rule (wpAny_bind (unpackItems_tuple (items:=#[u1,u2]) (I.ok.hd hc) (IsTup.new s1.heap _) fun h' hx'=>?_)))
  have I3:=I2.kept (h':=h') (t':=s1.toks) fun b o e=>hx' b o (Nat.ne_of_lt (Heap.lt_size e)) e
  show wpAny _ _ (assignInOrder [fun v=>bindName X.env y v,fun v=>bindName X.env x v] [u2,u1] >>= fun _=>pure Flow.next) _ _ _
  refine wpAny_bind (assignInOrder_cons (wpAny_bindName (store_ok I3 hN hj (.inl hy) rw' (fun s2 I4=>?_) (.inr hy))))
  refine assignInOrder_cons (wpAny_bindName (store_ok I4 hN hi (.inl hx) rv (fun s3 I5=>assignInOrder_nil (wpAny_pure ?_)) (.inr hx)))
  rw [List.set_comm _ _ (Ne.symm hij)] at I5
  exact ⟨_,H1,I5,q1⟩
end
section
variable {X:Cx} {pos:Pos}
def tWhile (c:TT) (tb:TS):TS:=fun D σ H=>∃ W:Nat→St→Hp→Prop,(∃ m,W m σ H)∧∀ m σ H,W m σ H →
  c σ H fun b H1=>if b=true then ∃ N:St→Hp→Prop,(∀ σ' H',N σ' H'→∃ m',m' < m∧W m' σ' H')∧tb { D with nx:=N,ct:=N,bk:=D.nx } σ H1 else D.nx σ H1
theorem ps_while {c:Expr} {body:List Stmt} {tc:TT} {tb:TS} (hp:PassesOwn (model X.prog X.w) X.A X.env X.xe) (hc:PT X c tc) (hb:PSs X body tb):PS X (.While c body [] pos) (tWhile tc tb):=by
  intro pins s σ H D I h
  obtain ⟨W,⟨m0,w0⟩,turn⟩:=h
  refine wpAny_While (codeAny_whileLoop (fun n s'=>∃ σ' H',Inv X pins σ' H' s'∧W n σ' H') ?_ m0 ⟨σ,H,I,w0⟩)
  rintro n s1 ⟨σ1,H1,I1,w1⟩
  refine wpAny_passesOwn hp (thn (hc pins s1 σ1 H1 _ I1 (turn n σ1 H1 w1)) fun b s2 ⟨H2,I2,q2⟩=>?_)
  cases b with
  | true =>
    obtain ⟨N,hN,q2⟩:=q2
    rw [if_pos rfl]
    refine wpAny_passesOwn hp (thn (hb pins s2 σ1 H2 _ I2 q2) fun f s3 q3=>?_)
    cases f with
    | next =>
      obtain ⟨σ3,H3,I3,n3⟩:=q3
      obtain ⟨m',hm,w3⟩:=hN σ3 H3 n3
      exact ⟨m',hm,σ3,H3,I3,w3⟩
    | cont =>
      obtain ⟨σ3,H3,I3,n3⟩:=q3
      obtain ⟨m',hm,w3⟩:=hN σ3 H3 n3
      exact ⟨m',hm,σ3,H3,I3,w3⟩
    | brk=>exact q3
    | ret v=>exact q3
  | false =>
    rw [if_neg Bool.false_ne_true]
    exact wpAny_execs_nil ⟨σ1,H2,I2,q2⟩
end
structure It where
  go:Nat→Hp→Prop
  yld:Nat→Hp→V→Hp→Prop
  stop:Nat→Hp→Prop
def FpOk (X:Cx) (pins:List (Addr × Obj)) (H:Hp) (b:Addr):Prop :=
  H b=none∧b≠X.env.locals∧b∉X.fs∧(b∈X.ex∨X.s₀.heap.objs.size≤b)∧(∀ x c,X.env.cells.lookup x=some c→c≠b)∧∀ p∈X.pn++pins,p.1≠b
theorem Inv.fpOk {X:Cx} {pins:List (Addr × Obj)} {σ:St} {H H':Hp} {s:Shared} {b:Addr} (I:Inv X pins σ H s) (hb:s.heap.objs.size≤b) (hn:H' b=none):FpOk X pins H' b:=by
  refine ⟨hn,Nat.ne_of_gt (Nat.lt_of_lt_of_le I.lt hb),I.nofs hb,.inr (Nat.le_trans I.sz hb),fun x c e z=>?_,fun p hp z=>?_⟩
  · obtain ⟨v,q⟩:=I.cell x c e
    exact absurd (Nat.lt_of_lt_of_le q.lt (by rw [z];exact hb)) (Nat.lt_irrefl _)
  · exact absurd (Nat.lt_of_lt_of_le (Heap.lt_size (I.pin p hp).1) (by rw [z];exact hb)) (Nat.lt_irrefl _)
structure Turn (P:Program) (w:World) (K:PySem.W.Frag) (tg:Expr) (J:It) (fp:List Addr) (it:Addr) (tn:Nat→Heap→Prop):Prop where
  mem:it∈fp
  obj:∀ i h,tn i h→∀ b∈fp,∃ o,h.get? b=some o∧∀ v,o.data≠.cell v
  keep:∀ i h h',tn i h→(∀ b∈fp,∀ o,h.get? b=some o→h'.get? b=some o)→tn i h'
  item:∀ (X:Cx),X.prog=P→X.w=w→X.K=K→X.calm=true→∀ (i:Nat) (pins:List (Addr × Obj)) (s:Shared) (σ:St) (H:Hp) (E:Value→Shared→Prop),Inv X pins σ H s→(∀ b∈fp,FpOk X pins H b)→tn i s.heap→J.go i H →
    wpAny (model P w) X.A (pyNext (.ref it)) (fun r s1=>∃ u,r=some u ∧
      wpAny (model P w) X.A (letOwnedTupleGo tg (.ref it) u) (fun _ s2=>∃ x H',Inv X pins σ H' s2∧RelV x u∧J.yld i H x H'∧tn (i+1) s2.heap∧∀ b∈fp,H' b=none) E s1) E s
  done:∀ (X:Cx),X.prog=P→X.w=w→X.K=K→X.calm=true→∀ (i:Nat) (pins:List (Addr × Obj)) (s:Shared) (σ:St) (H:Hp) (E:Value→Shared→Prop),Inv X pins σ H s→(∀ b∈fp,FpOk X pins H b)→tn i s.heap→J.stop i H →
    wpAny (model P w) X.A (pyNext (.ref it)) (fun r s1=>r=none∧Inv X pins σ H s1) E s
  self:∀ (A:Around) (i:Nat) (s:Shared) (Q:Value→Shared→Prop) (E:Value→Shared→Prop),tn i s.heap→Q (.ref it) s→wpAny (model P w) A (pyIter (.ref it)) Q E s
abbrev TI:=St→Hp→(It→Hp→Prop)→Prop
def PIE (X:Cx) (pins:List (Addr × Obj)) (σ:St) (tg:Expr) (R:It→Hp→Prop) (itv:Value) (s2:Shared):Prop :=
  ∃ (it:Addr) (fp:List Addr) (tn:Nat→Heap→Prop) (J:It) (H':Hp),itv = .ref it∧Inv X pins σ H' s2∧Turn X.prog X.w X.K tg J fp it tn∧tn 0 s2.heap∧(∀ b∈fp,FpOk X pins H' b)∧R J H'
def PI (X:Cx) (tg iter:Expr) (wi:TI):Prop :=
  ∀ (pins:List (Addr × Obj)) (s:Shared) (σ:St) (H:Hp) (R:It→Hp→Prop),Inv X pins σ H s→wi σ H R →
    wpAny (model X.prog X.w) X.A (eval iter X.env) (fun v s1=>wpAny (model X.prog X.w) X.A (pyIter v) (PIE X pins σ tg R) X.xe s1) X.xe s
theorem go_of {M:Model} {A:Around} {E:Value→Shared→Prop} {s:Shared} {tg:Expr} {it:Addr} {u:Value} {o:Obj} {n:String} {vs:Array Value} {Q:Unit→Shared→Prop} (ho:s.heap.get? it=some o) (hc:o.cls = .type n) (hd:o.data = .fields vs)
    (hn:["enumerate", "zip", "dict_itemiterator", "dict_reverseitemiterator", "odict_iterator", "itertools.zip_longest", "itertools.pairwise"].contains n=false) (hQ:Q () s):wpAny M A (letOwnedTupleGo tg (.ref it) u) Q E s:=by
  unfold letOwnedTupleGo
  cases tg<;>first
    | exact wpAny_pure hQ
    | (cases u<;>first
        | exact wpAny_pure hQ
        | (refine wpAny_bind (wpAny_load ho ?_)
           rw [hc, hd]
           show wpAny M A (if (["enumerate", "zip", "dict_itemiterator", "dict_reverseitemiterator", "odict_iterator", "itertools.zip_longest", "itertools.pairwise"].contains n && vs[0]? == some (rawInt _)) = true then _ else _) Q E s
           rw [if_neg (by intro h; rw [hn, Bool.false_and] at h; cases h)]
           exact wpAny_pure hQ))
def Itl (K:PySem.W.Frag) (a:Addr):It :=
  ⟨fun i H=>∃ xs x,SqL K H a xs∧xs[i]? = some x,fun i H x H'=>H' = H∧∀ xs,SqL K H a xs→xs[i]? = some x,fun i H=>∃ xs,SqL K H a xs∧xs.length≤i⟩
def Itt (K:PySem.W.Frag) (a:Addr):It :=
  ⟨fun i H=>∃ xs x,SqT K H a xs∧xs[i]? = some x,fun i H x H'=>H' = H∧∀ xs,SqT K H a xs→xs[i]? = some x,fun i H=>∃ xs,SqT K H a xs∧xs.length≤i⟩
def Itr (lo:Int) (n:Nat):It:=⟨fun i _=>i<n,fun i H x H'=>H' = H∧x = .int (lo+i),fun i _=>n≤i⟩
theorem turn_list {P:Program} {w:World} {K:PySem.W.Frag} {tg:Expr} (a it:Addr):Turn P w K tg (Itl K a) [it] it (fun i h=>h.IsListIter it a i) where
  mem:=by simp
  obj:=fun i h st b hb=>by
    have e:b=it:=by simpa using hb
    subst e
    obtain ⟨o,e,c,d⟩:=st
    exact ⟨o,e,fun v z=>by rw [d] at z;cases z⟩
  keep:=fun i h h' st k=>st.at fun o e=>k it (by simp) o e
  item:=by
    intro X hP hw hK hc i pins s σ H E I hf st hg
    subst hP hw hK
    obtain ⟨xs,x,hq,hx⟩:=hg
    obtain ⟨its,rv,p,hz⟩:=I.list hq
    obtain ⟨u,hu,ru⟩:=rv.get hx
    obtain ⟨f0,f1,f2,f3,f4,f5⟩:=hf it (by simp)
    refine wpAny_pyNext_list_item st p.isList (x:=u) (by simpa using hu) fun h' st' sb=>?_
    have I1:Inv X pins σ H { s with heap:=h' }:=I.turned (t':=s.toks) (fun b o hb e=>(sb.2 b hb).trans e) f0 f1 f3 f4 f5
    obtain ⟨o,e,c,d⟩:=id st'
    exact ⟨u,rfl,go_of (s:={ s with heap:=h' }) e c d (by decide) ⟨x,H,I1,ru,⟨rfl,fun ys hy=>by rw [I.list_inj hy hq];exact hx⟩,st',fun b hb=>(hf b hb).1⟩⟩
  done:=by
    intro X hP hw hK hc i pins s σ H E I hf st hg
    subst hP hw hK
    obtain ⟨xs,hq,hx⟩:=hg
    obtain ⟨its,rv,p,hz⟩:=I.list hq
    obtain ⟨f0,f1,f2,f3,f4,f5⟩:=hf it (by simp)
    have hl:=rv.length
    exact wpAny_pyNext_list_end (I.ok.hd hc) st p.isList (by simp;omega) fun h' eb=>⟨rfl,I.turned (t':=s.toks) (fun b o hb e=>eb b o hb e) f0 f1 f3 f4 f5⟩
  self:=fun _ _ _ _ _ st h=>wpAny_pyIter_listiter st h
theorem turn_tuple {P:Program} {w:World} {K:PySem.W.Frag} {tg:Expr} (a it:Addr):Turn P w K tg (Itt K a) [it] it (fun i h=>h.IsTupleIter it a i) where
  mem:=by simp
  obj:=fun i h st b hb=>by
    have e:b=it:=by simpa using hb
    subst e
    obtain ⟨o,e,c,d⟩:=st
    exact ⟨o,e,fun v z=>by rw [d] at z;cases z⟩
  keep:=fun i h h' st k=>st.at fun o e=>k it (by simp) o e
  item:=by
    intro X hP hw hK hc i pins s σ H E I hf st hg
    subst hP hw hK
    obtain ⟨xs,x,hq,hx⟩:=hg
    obtain ⟨its,rv,p,hz⟩:=I.tuple hq
    obtain ⟨u,hu,ru⟩:=rv.get hx
    obtain ⟨f0,f1,f2,f3,f4,f5⟩:=hf it (by simp)
    refine wpAny_pyNext_tuple_item st (show s.heap.IsTuple a its.toArray from p) (x:=u) (by simpa using hu) fun h' st' sb=>?_
    have I1:Inv X pins σ H { s with heap:=h' }:=I.turned (t':=s.toks) (fun b o hb e=>(sb.2 b hb).trans e) f0 f1 f3 f4 f5
    obtain ⟨o,e,c,d⟩:=id st'
    exact ⟨u,rfl,go_of (s:={ s with heap:=h' }) e c d (by decide) ⟨x,H,I1,ru,⟨rfl,fun ys hy=>by rw [I.tuple_inj hy hq];exact hx⟩,st',fun b hb=>(hf b hb).1⟩⟩
  done:=by
    intro X hP hw hK hc i pins s σ H E I hf st hg
    subst hP hw hK
    obtain ⟨xs,hq,hx⟩:=hg
    obtain ⟨its,rv,p,hz⟩:=I.tuple hq
    obtain ⟨f0,f1,f2,f3,f4,f5⟩:=hf it (by simp)
    have hl:=rv.length
    exact wpAny_pyNext_tuple_end (I.ok.hd hc) st (show s.heap.IsTuple a its.toArray from p) (by simp;omega) fun h' eb=>⟨rfl,I.turned (t':=s.toks) (fun b o hb e=>eb b o hb e) f0 f1 f3 f4 f5⟩
  self:=fun _ _ _ _ _ st h=>wpAny_pyIter_tupleiter st h
theorem turn_range {P:Program} {w:World} {K:PySem.W.Frag} {tg:Expr} (it:Addr) (lo:Int) (n:Nat):Turn P w K tg (Itr lo n) [it] it (fun i h=>IsRangeIter h it (lo+(i:Nat)*1) ((n:Int)-(i:Nat)) 1) where
  mem:=by simp
  obj:=fun i h st b hb=>by
    have e:b=it:=by simpa using hb
    subst e
    exact ⟨_,st,fun v z=>by
      have z':Data.fields _=Data.cell v:=z
      cases z'⟩
  keep:=fun i h h' st k=>k it (by simp) _ st
  item:=by
    intro X hP hw hK hc i pins s σ H E I hf st hg
    subst hP hw hK
    obtain ⟨f0,f1,f2,f3,f4,f5⟩:=hf it (by simp)
    have W:=Walks.range (prog:=X.prog) (w:=X.w) (I.ok.hd hc) it lo 1 n
    refine W.item i s _ _ hg st fun v h' tk hv st' kk=>?_
    obtain ⟨t,rfl⟩:=hv
    have I1:Inv X pins σ H { s with heap:=h',toks:=tk }:=I.turned (fun b o hb e=>kk b o (by simpa using hb) e) f0 f1 f3 f4 f5
    refine ⟨_,rfl,go_of (s:={ s with heap:=h',toks:=tk }) (n := "range_iterator") st' rfl rfl (by decide) ⟨.int (lo+i),H,I1,⟨t,?_⟩,⟨rfl,rfl⟩,st',fun b hb=>(hf b hb).1⟩⟩
    rw [Int.mul_one]
  done:=by
    intro X hP hw hK hc i pins s σ H E I hf st hg
    subst hP hw hK
    obtain ⟨f0,f1,f2,f3,f4,f5⟩:=hf it (by simp)
    exact wpAny_pyNext_range_end (I.ok.hd hc) st (by have:n≤i:=hg;omega) fun h' eb=>⟨rfl,I.turned (t':=s.toks) (fun b o hb e=>eb b o hb e) f0 f1 f3 f4 f5⟩
  self:=fun _ _ _ _ _ st h=>wpAny_pyIter_rangeiter st h
end L2
namespace L2
open PySem PySem.Spec PyProof.Rows
section
variable {X:Cx} {tg:Expr}
theorem range_it {pins:List (Addr × Obj)} {σ:St} {H:Hp} {s:Shared} {R:It→Hp→Prop} {E:Value→Shared→Prop} {lo hi:Int} {t u v:Tok} {tk:Nat} (I:Inv X pins σ H s) (h1:-(2 ^ 62)≤lo) (h2:lo<2 ^ 62) (h3:-(2 ^ 62)≤hi) (h4:hi<2 ^ 62)
    (q:R (Itr lo (hi-lo).toNat) H):wpAny (model X.prog X.w) X.A (pyIter (.ref s.heap.objs.size)) (PIE X pins σ tg R) E { s with heap:=s.heap.push { cls:=.type "range", data:=.fields #[.int lo t,.int hi u,.int 1 v] },toks:=tk }:=by
  refine wpAny_pyIter_range (IsRange.new ..) (small_one h1 h2 h3 h4) ?_
  have I1:Inv X pins σ H { s with heap:=s.heap.push { cls:=.type "range", data:=.fields #[.int lo t,.int hi u,.int 1 v] },toks:=tk }:=I.kept fun b o e=>Heap.get?_push_of_some _ e
  refine ⟨(s.heap.push { cls:=.type "range", data:=.fields #[.int lo t,.int hi u,.int 1 v] }).objs.size,[(s.heap.push { cls:=.type "range", data:=.fields #[.int lo t,.int hi u,.int 1 v] }).objs.size],_,_,H,rfl,
    I1.kept (t':=tk) fun b o e=>Heap.get?_push_of_some _ e,turn_range _ lo (hi-lo).toNat,?_,fun b hb=>?_,q⟩
  · have e1:lo+((0:Nat):Int)*1=lo:=by simp
    have e2:(((hi-lo).toNat:Nat):Int)-((0:Nat):Int)=Builtin.Range.rangeSize lo hi 1:=by rw [rangeSize_one];split<;>omega
    show IsRangeIter _ _ (lo+((0:Nat):Int)*1) ((((hi-lo).toNat:Nat):Int)-((0:Nat):Int)) 1
    rw [e1,e2]
    exact Heap.get?_push_size _ rfl
  · have e:b=(s.heap.push { cls:=.type "range", data:=.fields #[.int lo t,.int hi u,.int 1 v] }).objs.size:=by simpa using hb
    subst e
    exact I1.fpOk (Nat.le_refl _) (I1.hok.fresh (Nat.le_refl _))
def iRng1 (ta:TA):TI:=fun σ H R=>ta σ H fun vs H1=>∃ j:Int,vs=[.int j]∧-(2 ^ 62)≤j∧j<2 ^ 62∧R (Itr 0 j.toNat) H1
def iRng2 (ta:TA):TI:=fun σ H R=>ta σ H fun vs H1=>∃ i j:Int,vs=[.int i,.int j]∧(-(2 ^ 62)≤i∧i<2 ^ 62∧-(2 ^ 62)≤j∧j<2 ^ 62)∧R (Itr i (j-i).toNat) H1
theorem pi_range1 {a:Expr} {ta:TA} {p pos:Pos} (hg:Gl X "range") (hm:X.mg "range" = none) (ha:PA X [a] ta) (hs:starEach [a] X.env=[(false,eval a X.env)]:=by rfl):PI X tg (.Call (.Name "range" p) [a] [] pos) (iRng1 ta):=by
  intro pins s σ H R I h
  refine Call_ (ld_blt I hg hm boot_range (PyProof.Rows.callWith_type1 (thn (ha pos pins s σ H _ I h) fun us s1 ⟨vs,H1,I1,r1,q1⟩=>?_) hs rfl))
  obtain ⟨j,e,q1,q2,q⟩:=q1
  subst e
  cases r1 with
  | cons r rr =>
    cases rr
    obtain ⟨t,rfl⟩:=r
    exact call_range_1 (range_it I1 (by omega) (by omega) q1 q2 (by simpa using q))
theorem pi_range2 {a b:Expr} {ta:TA} {p pos:Pos} (hg:Gl X "range") (hm:X.mg "range" = none) (ha:PA X [a,b] ta) (hs:starEach [a,b] X.env=[(false,eval a X.env),(false,eval b X.env)]:=by rfl) (hs2:starEach [b] X.env=[(false,eval b X.env)]:=by rfl) :
    PI X tg (.Call (.Name "range" p) [a,b] [] pos) (iRng2 ta):=by
  intro pins s σ H R I h
  refine Call_ (ld_blt I hg hm boot_range (PyProof.Rows.callWith_type1 (thn (ha pos pins s σ H _ I h) fun us s1 ⟨vs,H1,I1,r1,q1⟩=>?_) (by rw [hs,hs2]) (by rw [hs2];rfl)))
  obtain ⟨i,j,e,⟨q1,q2,q3,q4⟩,q⟩:=q1
  subst e
  cases r1 with
  | cons r rr =>
    cases rr with
    | cons r' rr =>
      cases rr
      obtain ⟨t,rfl⟩:=r
      obtain ⟨t',rfl⟩:=r'
      exact call_range_2 (range_it I1 q1 q2 q3 q4 q)
def tFor (wi:TI) (g:TG) (tb:TS):TS:=fun D σ H=>wi σ H fun J H1=>∃ W:Nat→Nat→St→Hp→Prop,(∃ m,W 0 m σ H1)∧∀ i m σ H,W i m σ H →
  (J.stop i H∧D.nx σ H)∨(J.go i H∧∃ N:St→Hp→Prop,(∀ σ' H',N σ' H'→∃ m',m' < m∧W (i+1) m' σ' H')∧∀ x H',J.yld i H x H'→g x σ H' fun σ2 H2=>tb { D with nx:=N,ct:=N,bk:=D.nx } σ2 H2)
def pinsAt (fp:List Addr) (h:Heap):List (Addr × Obj):=fp.filterMap fun b=>(h.get? b).map fun o=>(b,o)
theorem mem_pinsAt {fp:List Addr} {h:Heap} {b:Addr} {o:Obj} (hb:b∈fp) (e:h.get? b=some o):(b,o)∈pinsAt fp h:=List.mem_filterMap.mpr ⟨b,hb,by rw [e];rfl⟩
theorem of_pinsAt {fp:List Addr} {h:Heap} {p:Addr × Obj} (hp:p∈pinsAt fp h):p.1∈fp∧h.get? p.1=some p.2:=by
  obtain ⟨b,hb,e⟩:=List.mem_filterMap.mp hp
  cases q:h.get? b with
  | none=>rw [q] at e;cases e
  | some o =>
    rw [q] at e
    have e':(b,o)=p:=Option.some.inj e
    subst e'
    exact ⟨hb,q⟩
theorem Inv.pinned {pins:List (Addr × Obj)} {σ:St} {H:Hp} {s:Shared} {fp:List Addr} (I:Inv X pins σ H s) (hf:∀ b∈fp,FpOk X pins H b) (ho:∀ b∈fp,∃ o,s.heap.get? b=some o∧∀ v,o.data≠.cell v):Inv X (pins++pinsAt fp s.heap) σ H s :=
  I.pins_of fun p hp=>(List.mem_append.mp hp).elim (fun z=>I.pin p (List.mem_append_right _ z)) fun z=>by
    obtain ⟨hb,e⟩:=of_pinsAt z
    obtain ⟨f0,f1,f2,_⟩:=hf p.1 hb
    obtain ⟨o,e',d⟩:=ho p.1 hb
    rw [e] at e';cases e'
    exact ⟨e,f0,f1,f2,d⟩
theorem Inv.unpinned {pins pl:List (Addr × Obj)} {σ:St} {H:Hp} {s:Shared} (I:Inv X (pins++pl) σ H s):Inv X pins σ H s:=I.pins_of fun p hp=>I.pin p (List.mem_append_right _ (List.mem_append_left _ hp))
theorem ps_for {iter:Expr} {body:List Stmt} {wi:TI} {g:TG} {tb:TS} {pos:Pos} (hp:PassesOwn (model X.prog X.w) X.A X.env X.xe) (hc:X.calm=true) (hi:PI X tg iter wi) (hg:PG X tg g) (hb:PSs X body tb)
    (hs:∀ x,foldedSetIterable iter X.env x=pure x:=by intro _;rfl):PS X (.For tg iter body [] pos) (tFor wi g tb):=by
  intro pins s σ H D I h
  refine wpAny_For (thn (hi pins s σ H _ I h) fun v s1 h1=>thn h1 fun itv s2 h2=>?_) hs
  obtain ⟨it,fp,tn,J,H2,e,I2,T,st2,f2,W,⟨m0,w0⟩,turn⟩:=h2
  subst e
  have stat:∀ {H':Hp},(∀ b∈fp,H' b=none)→∀ b∈fp,FpOk X pins H' b:=fun hn b hb=>⟨hn b hb,(f2 b hb).2⟩
  refine codeAny_forLoop_any (fun n s'=>∃ i σ' H',Inv X pins σ' H' s'∧tn i s'.heap∧(∀ b∈fp,H' b=none)∧W i n σ' H') ?_ m0 ⟨0,σ,H2,I2,st2,fun b hb=>(f2 b hb).1,w0⟩
  rintro n s3 ⟨i,σ3,H3,I3,st3,fr3,w3⟩
  rcases turn i n σ3 H3 w3 with ⟨stop,qn⟩ | ⟨go,N,hN,step⟩
  · refine wpAny_passesOwn hp (thn (T.done X rfl rfl rfl hc i pins s3 σ3 H3 X.xe I3 (stat fr3) st3 stop) fun r s4 ⟨hr,I4⟩=>?_)
    subst hr
    exact wpAny_execs_nil ⟨σ3,H3,I4,qn⟩
  · refine wpAny_passesOwn hp (thn (T.item X rfl rfl rfl hc i pins s3 σ3 H3 X.xe I3 (stat fr3) st3 go) fun r s4 ⟨u,hr,h4⟩=>?_)
    subst hr
    refine wpAny_passesOwn hp (thn h4 fun _ s5 ⟨x,H5,I5,r5,y5,st5,fr5⟩=>?_)
    have I5':=I5.pinned (stat fr5) (T.obj _ _ st5)
    refine wpAny_passesOwn hp (thn (hg _ s5 σ3 H5 x u _ I5' r5 (step x H5 y5)) fun _ s6 ⟨σ6,H6,I6,q6⟩=>?_)
    refine wpAny_passesOwn hp (thn (hb _ s6 σ6 H6 _ I6 q6) fun f s7 q7=>?_)
    have again:∀ {σ7:St} {H7:Hp},Inv X (pins++pinsAt fp s5.heap) σ7 H7 s7→N σ7 H7→∃ m,m<n∧∃ i σ' H',Inv X pins σ' H' s7∧tn i s7.heap∧(∀ b∈fp,H' b=none)∧W i m σ' H':=fun {σ7 H7} I7 n7=>by
      obtain ⟨m',hm,w7⟩:=hN σ7 H7 n7
      refine ⟨m',hm,i+1,σ7,H7,I7.unpinned,T.keep _ _ _ st5 fun b hb o e=>(I7.pin (b,o) (List.mem_append_right _ (List.mem_append_right _ (mem_pinsAt hb e)))).1,fun b hb=>?_,w7⟩
      obtain ⟨o,e,d⟩:=T.obj _ _ st5 b hb
      exact (I7.pin (b,o) (List.mem_append_right _ (List.mem_append_right _ (mem_pinsAt hb e)))).2.1
    cases f with
    | next=>obtain ⟨σ7,H7,I7,n7⟩:=q7;exact again I7 n7
    | cont=>obtain ⟨σ7,H7,I7,n7⟩:=q7;exact again I7 n7
    | brk=>obtain ⟨σ7,H7,I7,q7⟩:=q7;exact ⟨σ7,H7,I7.unpinned,q7⟩
    | ret v=>obtain ⟨x7,σ7,H7,I7,r7,q7⟩:=q7;exact ⟨x7,σ7,H7,I7.unpinned,r7,q7⟩
end
end L2
namespace L2
open PySem PySem.Spec PyProof.Rows
abbrev R2:=V→V→Hp→VK→Prop
def OpR (X:Cx) (f:Value→Value→Sem Value) (r:R2):Prop :=
  ∀ (pins:List (Addr × Obj)) (s:Shared) (σ:St) (H:Hp) (x y:V) (v u:Value) (Q:VK),Inv X pins σ H s→RelV x v→RelV y u→r x y H Q →
    wpAny (model X.prog X.w) X.A (f v u) (EP X pins σ Q) X.xe s
def UnR (X:Cx) (f:Value→Sem Value) (r:V→Hp→VK→Prop):Prop :=
  ∀ (pins:List (Addr × Obj)) (s:Shared) (σ:St) (H:Hp) (x:V) (v:Value) (Q:VK),Inv X pins σ H s→RelV x v→r x H Q →
    wpAny (model X.prog X.w) X.A (f v) (EP X pins σ Q) X.xe s
def CallR (X:Cx) (f:Value) (r:List V→Hp→VK→Prop):Prop :=
  ∀ (pins:List (Addr × Obj)) (s:Shared) (σ:St) (H:Hp) (xs:List V) (us:List Value) (Q:VK),Inv X pins σ H s→Vals xs us→r xs H Q →
    wpAny (model X.prog X.w) X.A (call f us) (EP X pins σ Q) X.xe s
def TruR (X:Cx) (r:V→Hp→(Bool→Hp→Prop)→Prop):Prop :=
  ∀ (pins:List (Addr × Obj)) (s:Shared) (σ:St) (H:Hp) (x:V) (v:Value) (Q:Bool→Hp→Prop),Inv X pins σ H s→RelV x v→r x H Q →
    wpAny (model X.prog X.w) X.A (truthy v) (TP X pins σ Q) X.xe s
def tOp (r:R2) (ta tb:TE):TE:=fun σ H Q=>ta σ H fun x H1=>tb σ H1 fun y H2=>r x y H2 Q
def tUn (r:V→Hp→VK→Prop) (ta:TE):TE:=fun σ H Q=>ta σ H fun x H1=>r x H1 Q
def rI (C:Int→Int→Prop) (g:Int→Int→V):R2:=fun x y H Q=>∃ i j,x = .int i∧y = .int j∧C i j∧Q (g i j) H
def rI0 (g:Int→Int→V):R2:=fun x y H Q=>∃ i j,x = .int i∧y = .int j∧Q (g i j) H
def rU (g:Int→V):V→Hp→VK→Prop:=fun x H Q=>∃ i,x = .int i∧Q (g i) H
section
variable {X:Cx} {a b c:Expr} {ta tb tc:TE} {pos:Pos}
theorem binT (ha:PE X a ta) (hb:PE X b tb) {pins:List (Addr × Obj)} {s:Shared} {σ:St} {H:Hp} {R:V→V→Hp→Prop} (I:Inv X pins σ H s)
    (h:ta σ H fun x H1=>tb σ H1 fun y H2=>R x y H2) {Q:Value→Shared→Prop} {f:Value→Value→Sem Value}
    (hf:∀ v u s2 x y H2,Inv X pins σ H2 s2→RelV x v→RelV y u→R x y H2→wpAny (model X.prog X.w) X.A (f v u) Q X.xe s2) :
    wpAny (model X.prog X.w) X.A (eval a X.env) (fun v s₁=>wpAny (model X.prog X.w) X.A (eval b X.env) (fun u s₂=>wpAny (model X.prog X.w) X.A (f v u) Q X.xe s₂) X.xe s₁) X.xe s:=by
  refine thn (ha pins s σ H _ I h) fun v s1 ⟨x,H1,I1,r1,q1⟩=>?_
  refine thn (hb pins s1 σ H1 _ I1 q1) fun u s2 ⟨y,H2,I2,r2,q2⟩=>?_
  exact hf v u s2 x y H2 I2 r1 r2 q2
theorem pe_op {op:Operator} {r:R2} (ho:OpR X (binaryOp op) r) (ha:PE X a ta) (hb:PE X b tb):PE X (.BinOp a op b pos) (tOp r ta tb):=by
  intro pins s σ H Q I h
  exact wpAny_BinOp (binT ha hb I h fun v u s2 x y H2 I2 rx ry q=>ho pins s2 σ H2 x y v u Q I2 rx ry q)
theorem pe_un {op:UnaryOp} {r:V→Hp→VK→Prop} (ho:UnR X (unaryOp op) r) (ha:PE X a ta):PE X (.UnaryOp op a pos) (tUn r ta):=by
  intro pins s σ H Q I h
  exact UnaryOp_ (thn (ha pins s σ H _ I h) fun v s1 ⟨x,H1,I1,r1,q1⟩=>ho pins s1 σ H1 x v Q I1 r1 q1)
theorem opI {f:Value→Value→Sem Value} {C:Int→Int→Prop} {g:Int→Int→Int}
    (rule:∀ (i j:Int) (t u:Tok) (s:Shared) (Q:Value→Shared→Prop) (E:Value→Shared→Prop),C i j→Q (.int (g i j) s.toks) { s with toks:=s.toks+1 }→wpAny (model X.prog X.w) X.A (f (.int i t) (.int j u)) Q E s) :
    OpR X f (rI C fun i j=>.int (g i j)):=by
  intro pins s σ H x y v u Q I rx ry h
  obtain ⟨i,j,rfl,rfl,hc,q⟩:=h
  obtain ⟨t,rfl⟩:=rx
  obtain ⟨t',rfl⟩:=ry
  exact rule i j t t' s _ _ hc ⟨.int (g i j),H,I.tok _,⟨_,rfl⟩,q⟩
theorem opI0 {f:Value→Value→Sem Value} {g:Int→Int→Int}
    (rule:∀ (i j:Int) (t u:Tok) (s:Shared) (Q:Value→Shared→Prop) (E:Value→Shared→Prop),Q (.int (g i j) s.toks) { s with toks:=s.toks+1 }→wpAny (model X.prog X.w) X.A (f (.int i t) (.int j u)) Q E s) :
    OpR X f (rI0 fun i j=>.int (g i j)):=by
  intro pins s σ H x y v u Q I rx ry h
  obtain ⟨i,j,rfl,rfl,q⟩:=h
  obtain ⟨t,rfl⟩:=rx
  obtain ⟨t',rfl⟩:=ry
  exact rule i j t t' s _ _ ⟨.int (g i j),H,I.tok _,⟨_,rfl⟩,q⟩
theorem opB0 {f:Value→Value→Sem Value} {g:Int→Int→Bool}
    (rule:∀ (i j:Int) (t u:Tok) (s:Shared) (Q:Value→Shared→Prop) (E:Value→Shared→Prop),Q (.bool (g i j)) s→wpAny (model X.prog X.w) X.A (f (.int i t) (.int j u)) Q E s) :
    OpR X f (rI0 fun i j=>.bl (g i j)):=by
  intro pins s σ H x y v u Q I rx ry h
  obtain ⟨i,j,rfl,rfl,q⟩:=h
  obtain ⟨t,rfl⟩:=rx
  obtain ⟨t',rfl⟩:=ry
  exact rule i j t t' s _ _ ⟨.bl (g i j),H,I,rfl,q⟩
def CMul (i j:Int):Prop:=(-(2 ^ 64)<i∧i<2 ^ 64)∨(-(2 ^ 64)<j∧j<2 ^ 64)
theorem CMul.ok {i j:Int} (h:CMul i j):IntMulOk i j:=by
  rcases h with ⟨h1,h2⟩ | ⟨h1,h2⟩
  · exact .of_left (intBits_le_64 h1 h2)
  · exact .of_right (intBits_le_64 h1 h2)
theorem two_pow_nn (k:Nat):(0:Int)≤2 ^ k:=by
  rw [two_pow_cast]
  exact Int.natCast_nonneg _
theorem op_add:OpR X (binaryOp .Add) (rI0 fun i j=>.int (i+j)):=opI0 fun _ _ _ _ _ _ _ q=>add_int q
theorem op_sub:OpR X (binaryOp .Sub) (rI0 fun i j=>.int (i-j)):=opI0 fun _ _ _ _ _ _ _ q=>sub_int q
theorem op_modN:OpR X (binaryOp .Mod) (rI (fun _ j=>j≠0) fun i j=>.int (i.fmod j)):=opI fun _ _ _ _ _ _ _ hc q=>mod_int' hc q
theorem op_shr:OpR X (binaryOp .RShift) (rI (fun _ j=>0≤j) fun i j=>.int (i / 2 ^ j.toNat)):=opI fun i j _ _ _ _ _ hc q =>
  rshift_int hc (by rw [Int.fdiv_eq_ediv_of_nonneg i (two_pow_nn _)];exact q)
theorem op_and:OpR X (binaryOp .BitAnd) (rI0 fun i j=>.int (Builtin.bitAnd i j)):=opI0 fun _ _ _ _ _ _ _ q=>and_int q
theorem unI {f:Value→Sem Value} {g:Int→Int}
    (rule:∀ (i:Int) (t:Tok) (s:Shared) (Q:Value→Shared→Prop) (E:Value→Shared→Prop),Q (.int (g i) s.toks) { s with toks:=s.toks+1 }→wpAny (model X.prog X.w) X.A (f (.int i t)) Q E s) :
    UnR X f (rU fun i=>.int (g i)):=by
  intro pins s σ H x v Q I rx h
  obtain ⟨i,rfl,q⟩:=h
  obtain ⟨t,rfl⟩:=rx
  exact rule i t s _ _ ⟨.int (g i),H,I.tok _,⟨_,rfl⟩,q⟩
theorem un_neg:UnR X (unaryOp .USub) (rU fun i=>.int (-i)):=unI fun _ _ _ _ _ q=>neg_int q
end
section
variable {X:Cx} {a b c:Expr} {ta tb tc:TE} {pos:Pos}
theorem op_lt:OpR X (compareOp .Lt) (rI0 fun i j=>.bl (decide (i<j))):=opB0 fun _ _ _ _ _ _ _ q=>lt_int q
theorem op_gt:OpR X (compareOp .Gt) (rI0 fun i j=>.bl (decide (j<i))):=opB0 fun _ _ _ _ _ _ _ q=>gt_int q
theorem OpR.or {f:Value→Value→Sem Value} {r r':R2} (h:OpR X f r) (h':OpR X f r'):OpR X f (fun x y H Q=>r x y H Q∨r' x y H Q):=by
  intro pins s σ H x y v u Q I rx ry q
  rcases q with q | q
  · exact h pins s σ H x y v u Q I rx ry q
  · exact h' pins s σ H x y v u Q I rx ry q
theorem nomark (b:Expr) {op:CmpOp} (h:op≠.In:=by decide) (h2:op≠.NotIn:=by decide):behindInMarks op b=false:=by
  have e1:(op==CmpOp.In)=false:=by cases op<;>first | rfl | exact absurd rfl h
  have e2:(op==CmpOp.NotIn)=false:=by cases op<;>first | rfl | exact absurd rfl h2
  cases b<;>simp [behindInMarks,e1,e2]
theorem pe_cmpR {op:CmpOp} {r:R2} (ho:OpR X (compareOp op) r) (ha:PE X a ta) (hb:PE X b tb) (hm:behindInMarks op b=false):PE X (.Compare a [op] [b] pos) (tOp r ta tb):=by
  intro pins s σ H Q I h
  exact wpAny_Compare1 (binT ha hb I h fun v u s2 x y H2 I2 rx ry q=>ho pins s2 σ H2 x y v u Q I2 rx ry q) hm
def tTest (t:TE):TT:=fun σ H Q=>t σ H fun x H'=>∃ k,x = .bl k∧Q k H'
theorem pt_cmpR {op:CmpOp} {r:R2} (ho:OpR X (compareOp op) r) (ha:PE X a ta) (hb:PE X b tb) (hm:behindInMarks op b=false):PT X (.Compare a [op] [b] pos) (tTest (tOp r ta tb)):=by
  intro pins s σ H Q I h
  refine wpAny_isTrue_Compare1 (thn (ha pins s σ H _ I h) fun v s1 ⟨x,H1,I1,r1,q1⟩=>thn (hb pins s1 σ H1 _ I1 q1) fun u s2 ⟨y,H2,I2,r2,q2⟩ =>
    thn (ho pins s2 σ H2 x y v u _ I2 r1 r2 q2) fun c s3 ⟨z,H3,I3,r3,k,e,q3⟩=>?_) hm
  subst e
  cases r3
  exact wpAny_truthy_bool ⟨H3,I3,q3⟩
def TruV (K:PySem.W.Frag) (x:V) (H:Hp) (k:Bool):Prop :=
  match x with
  | .non=>k=false
  | .bl b=>k=b
  | .int i=>k=(i != 0)
  | .str y=>y.length≤sizeLine∧k=((y.length:Int) != 0)
  | .byt y=>y.size≤sizeLine∧k=((y.size:Int) != 0)
  | .ref p=>(∃ xs,SqL K H p xs∧k = !xs.isEmpty)∨(∃ xs,SqT K H p xs∧k = !xs.isEmpty) ∨ ∃ kvs,H p=some (.dK kvs)∧k = !kvs.isEmpty
  | _=>False
theorem isEmpty_kv {κ:Type} {kvs:List (κ × V)} {vs:List (κ × Value)} (r:KV kvs vs):(!vs.isEmpty) = !kvs.isEmpty:=by
  cases r<;>rfl
theorem isEmpty_of {xs:List V} {its:List Value} (r:Vals xs its):(!its.toArray.isEmpty) = !xs.isEmpty:=by
  cases r<;>simp
theorem line63:(sizeLine:Nat)<2 ^ 63:=by rw [sizeLine_eq];decide
theorem tru_ok:TruR X (fun x H Q=>∃ k,TruV X.K x H k∧Q k H):=by
  intro pins s σ H x v Q I rx h
  obtain ⟨k,e,q⟩:=h
  have hl:=line63
  have hs:sizeLine=16777216:=sizeLine_eq
  cases x with
  | non =>
    cases rx
    have e':k=false:=e
    subst e'
    exact truthy_none ⟨H,I,q⟩
  | bl b =>
    cases rx
    have e':k=b:=e
    subst e'
    exact wpAny_truthy_bool ⟨H,I,q⟩
  | int i =>
    obtain ⟨t,rfl⟩:=rx
    have e':k=(i != 0):=e
    subst e'
    exact PySem.P.truthy_int ⟨H,I,q⟩
  | str y =>
    obtain ⟨t,rfl⟩:=rx
    obtain ⟨hy,e'⟩:y.length≤sizeLine∧k=((y.length:Int) != 0):=e
    subst e'
    exact PySem.P.truthy_str (by omega) ⟨H,I.tok _,q⟩
  | byt y =>
    obtain ⟨t,rfl⟩:=rx
    obtain ⟨hy,e'⟩:y.size≤sizeLine∧k=((y.size:Int) != 0):=e
    subst e'
    exact PySem.W.truthy_bytes (by omega) ⟨H,I.tok _,q⟩
  | ref p =>
    cases rx
    have e':(∃ xs,SqL X.K H p xs∧k = !xs.isEmpty)∨(∃ xs,SqT X.K H p xs∧k = !xs.isEmpty) ∨ ∃ kvs,H p=some (.dK kvs)∧k = !kvs.isEmpty:=e
    rcases e' with ⟨xs,hx,e'⟩ | ⟨xs,hx,e'⟩ | ⟨kvs,hx,e'⟩
    · subst e'
      obtain ⟨its,r,pl,hz⟩:=I.list hx
      have hlen:=r.length
      exact wpAny_truthy_list pl.isList (by simp only [List.size_toArray];omega) ⟨H,I.tok _,by rw [isEmpty_of r];exact q⟩
    · subst e'
      obtain ⟨its,r,pl,hz⟩:=I.tuple hx
      have hlen:=r.length
      exact truthy_tuple pl (by simp only [List.size_toArray];omega) ⟨H,I.tok _,by rw [isEmpty_of r];exact q⟩
    · subst e'
      obtain ⟨hz,hS,vs,r,m⟩:kvs.length≤sizeLine∧(p==sysModules)=false∧∃ vs,KV kvs vs∧s.heap.DictOf (mixKind X.prog X.w) p vs:=I.hok p _ hx
      have hlen:kvs.length=vs.length:=Paired.length r
      exact wpAny_truthy_dict hS m (by omega) ⟨H,I.tok _,by rw [isEmpty_kv r];exact q⟩
  | _=>exact (show False from e).elim
theorem pt_truth (ha:PE X a ta) (he:∀ whole,isTrue a X.env whole=(do let v ← whole;standAt a.pos;holding [v] (truthy v))) :
    PT X a (fun σ H Q=>ta σ H fun x H'=>∃ k,TruV X.K x H' k∧Q k H'):=by
  intro pins s σ H Q I h
  exact isTrue_plain (thn (ha pins s σ H _ I h) fun v s1 ⟨x,H1,I1,r1,q1⟩=>tru_ok pins s1 σ H1 x v Q I1 r1 q1) (he _)
theorem vals1 {x:V} {us:List Value} (r:Vals [x] us):∃ u,us=[u]∧RelV x u:=by
  cases r with
  | cons r1 r2=>cases r2;exact ⟨_,rfl,r1⟩
theorem vals2 {x y:V} {us:List Value} (r:Vals [x,y] us):∃ u w',us=[u,w']∧RelV x u∧RelV y w':=by
  cases r with
  | cons r1 r2 =>
    cases r2 with
    | cons r3 r4=>cases r4;exact ⟨_,_,rfl,r1,r3⟩
theorem call_abs:CallR X (.builtin "abs") (fun xs H Q=>∃ i,xs=[.int i]∧Q (.int (if i<0 then -i else i)) H):=by
  intro pins s σ H xs us Q I r h
  obtain ⟨i,rfl,q⟩:=h
  obtain ⟨u,rfl,t,rfl⟩:=vals1 r
  exact call_abs_int fun u tk=>⟨.int (if i<0 then -i else i),H,I.tok _,⟨_,rfl⟩,q⟩
theorem call_min2 (hc:X.calm=true):CallR X (.builtin "min") (fun xs H Q=>∃ i j,xs=[.int i,.int j]∧Q (.int (if j<i then j else i)) H):=by
  intro pins s σ H xs us Q I r h
  obtain ⟨i,j,rfl,q⟩:=h
  obtain ⟨u,w',rfl,⟨t,rfl⟩,⟨t',rfl⟩⟩:=vals2 r
  refine min_two_ints (I.ok.hd hc) fun h' tk k=>⟨_,H,I.kept k,?_,q⟩
  by_cases hj:j<i
  · rw [if_pos hj,if_pos hj];exact ⟨_,rfl⟩
  · rw [if_neg hj,if_neg hj];exact ⟨_,rfl⟩
end
end L2
namespace L2
open PySem PySem.Spec PyProof.Rows
structure ObjM (h:Heap) (x dx C:Addr) (mA:Str→Option Value):Prop where
  obj:h.get? x=some (PySem.W.instObj C dx)
  ns:h.Ns1 dx mA
  ne:dx≠x
theorem lookIn_ns {h:Heap} {dx:Addr} {mA:Str→Option Value} (n:h.Ns1 dx mA):∃ od,h.get? dx=some od∧∀ name,PySem.W.lookIn name od=some (mA name):=by
  obtain ⟨o,es,ep,ho,hd,hk,_,hm⟩:=n
  refine ⟨o,ho,fun name=>?_⟩
  have e:=hm name
  unfold nsFind findBy at e
  rw [← Array.find?_toList] at e
  unfold PySem.W.lookIn
  rw [hd]
  dsimp only
  split
  · rename_i y q
    rw [q] at e
    exact congrArg some e
  · rename_i q
    rw [q] at e
    have a:es.toList.any (·.refKey)=false:=by
      rw [List.any_eq_false]
      intro y hy
      obtain ⟨z,t,hkey⟩:=hk y (Array.mem_toList_iff.mp hy)
      simp [DictEntry.refKey,hkey]
    have a':¬ es.toList.any (·.refKey)=true:=by rw [a];exact Bool.false_ne_true
    rw [if_neg a']
    exact congrArg some e
theorem ObjM.look {h:Heap} {x dx C:Addr} {mA:Str→Option Value} (I:ObjM h x dx C mA):∃ od,PySem.W.InstAt h x (PySem.W.instObj C dx) C (some od)∧∀ name,PySem.W.lookIn name od=some (mA name) :=
  let ⟨od,ho,hl⟩:=lookIn_ns I.ns
  ⟨od,⟨I.obj,rfl,rfl,ho⟩,hl⟩
section
variable {prog:Program} {w:World} {A:Around} {E:Value→Shared→Prop} {s:Shared} {K:PySem.W.Frag} {x dx C f:Addr} {mA:Str→Option Value} {name:Str} {v:Value}
end
section
variable {P:Program} {w:World} {H H':Hp} {h h':Heap} {a C dx:Addr} {fs fs':List (Str × V)}
theorem ins_get (hok:HOk P w H h) (e:H a=some (.ins C dx fs)):∃ mA,ObjM h a dx C mA∧(∀ f,RelO (fs.lookup f) (mA f))∧PySem.Within mA (fs.map (·.1))∧fs.length≤1000∧H dx=some (.own a):=by
  obtain ⟨d,z,ne,ob,mA,n,r,q⟩:=(show ObjOk P w H h a (.ins C dx fs) from hok a _ e)
  exact ⟨mA,⟨ob,n,ne⟩,r,q,z,d⟩
end
structure Cls (K:PySem.W.Frag) (C:Addr):Prop where
  pg:PySem.W.plainGet K C Str.empty=true
  hd:PySem.W.hasDictIn K C=true
  po:PySem.W.plainOver K C=true
  sa:PySem.W.findIn K (.ref C) "__setattr__" = some (some (.builtin "object.__setattr__"))
theorem Cls.get {K:PySem.W.Frag} {C:Addr} (c:Cls K C) (f:Str):PySem.W.plainGet K C f=true:=c.pg
structure Con (K:PySem.W.Frag) (C:Addr) (f:Str) (v:V) (u:Value):Prop where
  at_:PySem.W.findIn K (.ref C) f=some (some u)
  rel:RelV v u
  get:PySem.W.specialIn K u "__get__" = some none
  cp:PySem.W.copiedNames.contains f=false
structure Meth (K:PySem.W.Frag) (C:Addr) (m:Str) (f:Addr):Prop where
  at_:PySem.W.findIn K (.ref C) m=some (some (.ref f))
  fn:PySem.W.isFn K (.ref f)=true
  kp:PySem.W.keepIn K (.ref f)=true
section
variable {X:Cx} {pins:List (Addr × Obj)} {σ:St} {H:Hp} {s:Shared} {a C dx:Addr} {fs:List (Str × V)} {f:Str} {v:V} {A:Around} {E:Value→Shared→Prop}
end
section
variable {X:Cx} {o e value:Expr} {f:Str} {pos pos' tpos:Pos} {ta tv:TE}
end
section
variable {X:Cx} {pins:List (Addr × Obj)} {σ:St} {H:Hp} {s:Shared} {A:Around} {E:Value→Shared→Prop} {Q:Value→Shared→Prop} {c:Value} {b:Bool}
inductive TyOf (K:PySem.W.Frag) (H:Hp):V→Value→Prop where
  | non:TyOf K H .non (.type "NoneType")
  | bl (x:Bool):TyOf K H (.bl x) (.type "bool")
  | int (i:Int):TyOf K H (.int i) (.type "int")
  | str (x:Str):TyOf K H (.str x) (.type "str")
  | flt (x:UInt64):TyOf K H (.flt x) (.type "float")
  | lst {a:Addr} {xs:List V} (e:H a=some (.lst xs)):TyOf K H (.ref a) (.type "list")
  | frz {a:Addr} {o:Obj} {xs:List V} (e:H a=some (.frz o (.lst xs))):TyOf K H (.ref a) (.type "list")
  | tup {a:Addr} {xs:List V} (e:H a=some (.tup xs)):TyOf K H (.ref a) (.type "tuple")
  | dK {a:Addr} {kvs:List (Key × V)} (e:H a=some (.dK kvs)):TyOf K H (.ref a) (.type "dict")
  | dT {a:Addr} {kvs:List (List Key × V)} (e:H a=some (.dT kvs)):TyOf K H (.ref a) (.type "dict")
  | ins {a C dx:Addr} {fs:List (Str × V)} (e:H a=some (.ins C dx fs)) (cl:Cls K C) (ha:PySem.W.findIn K (.ref C) "__class__" = some (some (.builtin "object.__class__")))
      (hn:PySem.W.specialIn K (.builtin "object.__class__") "__get__" = some (some (.builtin "getset_descriptor.__get__"))) (htk:PySem.W.takesIn K (.builtin "object.__class__")=some true)
      (hm:PySem.W.mroIn K C (.type "object")=some true):TyOf K H (.ref a) (.ref C)
theorem isinst_ok {x:V} {u t:Value} (I:Inv X pins σ H s) (rx:RelV x u) (ty:TyOf X.K H x t) (e:PySem.W.kitOne X.K t c=some b) (h:∀ tk,Q (.bool b) { s with toks:=tk }) :
    wpAny (model X.prog X.w) A (call (.builtin "isinstance") [u,c]) Q E s:=by
  cases ty with
  | non=>cases (show u=Value.none from rx);exact PySem.W.kia_one PySem.W.kitx_none I.kIn True.intro e (fun z=>nomatch z) h
  | bl y=>cases (show u=Value.bool y from rx);exact PySem.W.kia_one PySem.W.kitx_bool I.kIn True.intro e (fun z=>nomatch z) h
  | int i=>obtain ⟨t,q⟩:=(show ∃ t,u=Value.int i t from rx);cases q;exact PySem.W.kia_one PySem.W.kitx_int I.kIn True.intro e (fun z=>nomatch z) h
  | str y=>obtain ⟨t,q⟩:=(show ∃ t,u=Value.str y t from rx);cases q;exact PySem.W.kia_one PySem.W.kitx_str I.kIn True.intro e (fun z=>nomatch z) h
  | flt y=>obtain ⟨t,q⟩:=(show ∃ t,u=Value.float y t from rx);cases q;exact PySem.W.kia_one PySem.W.kitx_float I.kIn True.intro e (fun z=>nomatch z) h
  | @lst a xs ea =>
    cases (show u=Value.ref a from rx)
    obtain ⟨_,_,n,_,h1⟩:=(show ObjOk X.prog X.w H s.heap a (.lst xs) from I.hok a _ ea)
    exact PySem.W.kia_one PySem.W.kitx_list I.kIn ⟨_,h1,rfl⟩ e (fun z=>nomatch z) h
  | @frz a ob xs ea =>
    cases (show u=Value.ref a from rx)
    obtain ⟨_,_,_,n,_,h1⟩:=(show ObjOk X.prog X.w H s.heap a (.frz ob (.lst xs)) from I.hok a _ ea)
    exact PySem.W.kia_one PySem.W.kitx_list I.kIn ⟨_,h1,rfl⟩ e (fun z=>nomatch z) h
  | @tup a xs ea =>
    cases (show u=Value.ref a from rx)
    obtain ⟨_,_,_,p⟩:=(show ObjOk X.prog X.w H s.heap a (.tup xs) from I.hok a _ ea)
    obtain ⟨o,h1,h2,_⟩:=p
    exact PySem.W.kia_one PySem.W.kitx_tuple I.kIn ⟨o,h1,h2⟩ e (fun z=>nomatch z) h
  | @dK a kvs ea =>
    cases (show u=Value.ref a from rx)
    obtain ⟨_,_,vs,_,p⟩:=(show ObjOk X.prog X.w H s.heap a (.dK kvs) from I.hok a _ ea)
    obtain ⟨o,es,ep,h1,h2,_⟩:=p
    exact PySem.W.kia_one PySem.W.kitx_dict I.kIn ⟨o,h1,h2.1⟩ e (fun z=>nomatch z) h
  | @dT a kvs ea =>
    cases (show u=Value.ref a from rx)
    obtain ⟨_,_,xs,_,o,es,ep,h1,h2,_⟩:=(show ObjOk X.prog X.w H s.heap a (.dT kvs) from I.hok a _ ea)
    exact PySem.W.kia_one PySem.W.kitx_dict I.kIn ⟨o,h1,h2.1⟩ e (fun z=>nomatch z) h
  | @ins a C dx fs ea cl ha hn htk hm =>
    cases (show u=Value.ref a from rx)
    obtain ⟨mA,O,_⟩:=ins_get I.hok ea
    obtain ⟨od,J,_⟩:=O.look
    exact PySem.W.kia_one (PySem.W.kitx_own (cl.get _) cl.hd ha hn htk hm) I.kIn J e (fun z=>nomatch z) h
end
end L2
namespace L2
open PySem PySem.Spec PyProof.Rows
structure Room (k:Nat) (A:Around):Prop where
  hd:A.handled=none
  dp:A.depth+3*k+120<recursionLimit
  un:A.units+16*k+200<cLine
theorem Room.mono {j k:Nat} {A:Around} (r:Room k A) (h:j≤k):Room j A:=⟨r.hd,by have:=r.dp;omega,by have:=r.un;omega⟩
theorem Room.deeper {k:Nat} {A:Around} (r:Room (k+1) A) (env:Env):Room k (A.deeper env) :=
  ⟨r.hd,by have:=r.dp;show A.depth+1+3*k+120<_;omega,by have:=r.un;show A.units+3+16*k+200<_;omega⟩
theorem Room.in1 {k:Nat} {A:Around} (r:Room (k+1) A):Room k A.in1 :=
  ⟨r.hd,by have:=r.dp;show A.depth+3*k+120<_;omega,by have:=r.un;show A.units+1+16*k+200<_;omega⟩
theorem Room.depth {k:Nat} {A:Around} (r:Room k A):A.depth<recursionLimit:=by have:=r.dp;omega
theorem Room.units {k:Nat} {A:Around} (r:Room k A):A.units+64<cLine:=by have:=r.un;omega
def tNil:TA:=fun _ H Q=>Q [] H
def tCons (ta:TE) (tr:TA):TA:=fun σ H Q=>ta σ H fun x H1=>tr σ H1 fun xs H2=>Q (x::xs) H2
section
variable {X:Cx} {e:Expr} {es:List Expr} {te:TE} {t:TA} {pos:Pos}
theorem pa_nil:PA X [] tNil:=fun _ _ _ _ H Q I h=>Calls.spliced_nil ⟨[],H,I,.nil,h⟩
theorem pa_cons (ha:PE X e te) (hr:PA X es t) (hs:starEach (e::es) X.env=(false,eval e X.env)::starEach es X.env:=by rfl):PA X (e::es) (tCons te t):=by
  intro pos pins s σ H Q I h
  rw [hs]
  show wpAny _ _ (spliced ((false,eval e X.env)::backTo pos (starEach es X.env))) _ _ s
  refine Calls.spliced_cons (thn (ha pins s σ H _ I h) fun u s1 ⟨x,H1,I1,r1,q1⟩=>?_)
  exact thn (hr pos pins s1 σ H1 _ I1 q1) fun us s2 ⟨xs,H2,I2,r2,q2⟩=>⟨x::xs,H2,I2,.cons r1 r2,q2⟩
def tLst (t:TA):TE:=fun σ H Q=>t σ H fun xs H1=>xs.length≤sizeLine∧∀ p,H1 p=none→Q (.ref p) (upd H1 p (.lst xs))
theorem pe_lst (h:PA X es t):PE X (.List es pos) (tLst t):=by
  intro pins s σ H Q I hq
  refine wpAny_List_spliced (thn (h pos pins s σ H _ I hq) fun us s1 ⟨xs,H1,I1,r,z,q⟩=>⟨by rw [← r.length];exact z,?_⟩)
  have hf:H1 s1.heap.objs.size=none:=I1.hok.fresh (Nat.le_refl _)
  refine ⟨.ref s1.heap.objs.size,upd H1 s1.heap.objs.size (.lst xs),I1.laid (t':=s1.toks) (fun b u e=>Heap.get?_push_of_some _ e) (Nat.le_refl _) ?_,rfl,q _ hf⟩
  exact ⟨z,us,0,r,Heap.get?_push_size _ rfl⟩
end
abbrev Sp:=List V→Hp→VK→XK→Prop
abbrev CXT:=List Env→Hp→Shared→XK→Value→Shared→Prop
structure Env0 (P:Program) (w:World) (K:PySem.W.Frag) (mg:Str→Option Value) (base:Heap) (A:Around) (outer:List Env) (s:Shared) (H:Hp):Prop where
  frames:A.frames=some outer
  mod:Mod K mg base
  bs:∀ b o,base.get? b=some o→s.heap.get? b=some o∧H b=none
  bsz:base.objs.size≤s.heap.objs.size
  funs:s.heap.FunFrames base outer
  frf:∀ b∈frs outer,H b=none
  hok:HOk P w H s.heap
  bare:AllBare s.gens
def CE (outer:List Env) (P:Program) (w:World) (H:Hp) (s:Shared) (Q:VK) (u:Value) (s':Shared):Prop :=
  ∃ v H',s'.os=s.os∧AllBare s'.gens∧Un (frs outer) [] H H' s.heap s'.heap∧HOk P w H' s'.heap∧RelV v u∧Q v H'
def CR (CX:CXT) (outer:List Env) (P:Program) (w:World) (H:Hp) (s:Shared) (Q:VK) (E:XK) (r:Result) (s':Shared):Prop :=
  match r with
  | .ok (.ret u)=>CE outer P w H s Q u s'
  | .ok _=>False
  | .error e=>CX outer H s E e s'
structure FnOk (P:Program) (w:World) (K:PySem.W.Frag) (mg:Str→Option Value) (base:Heap) (CX:CXT) (k:Nat) (f:Addr) (fd:FuncData) (ps:List Str) (sp:Sp):Prop where
  len:∀ vs H Q E,sp vs H Q E→vs.length=ps.length
  run:∀ (A:Around) (outer:List Env) (s:Shared) (H:Hp) (args:Args) (us:List Value) (vs:List V) (Q:VK) (E:XK),Room k A→Env0 P w K mg base A outer s H→BindsTo s fd args (ps.zip us)→Vals vs us→sp vs H Q E →
    codeAny (model P w) A (.call (.ref f) args) (CR CX outer P w H s Q E) s
theorem FnOk.mono {P:Program} {w:World} {K:PySem.W.Frag} {mg:Str→Option Value} {base:Heap} {CX:CXT} {j k:Nat} {f:Addr} {fd:FuncData} {ps:List Str} {sp:Sp} (F:FnOk P w K mg base CX j f fd ps sp) (h:j≤k) :
    FnOk P w K mg base CX k f fd ps sp:=⟨F.len,fun A outer s H args us vs Q E hr=>F.run A outer s H args us vs Q E (hr.mono h)⟩
theorem FnOk.imp {P:Program} {w:World} {K:PySem.W.Frag} {mg:Str→Option Value} {base:Heap} {CX:CXT} {k:Nat} {f:Addr} {fd:FuncData} {ps:List Str} {sp sp':Sp} (F:FnOk P w K mg base CX k f fd ps sp)
    (h:∀ vs H Q E,sp' vs H Q E→sp vs H Q E):FnOk P w K mg base CX k f fd ps sp' :=
  ⟨fun vs H Q E q=>F.len vs H Q E (h _ _ _ _ q),fun A outer s H args us vs Q E hr he hb hv hs=>F.run A outer s H args us vs Q E hr he hb hv (h _ _ _ _ hs)⟩
theorem Env0.in1 {P:Program} {w:World} {K:PySem.W.Frag} {mg:Str→Option Value} {base:Heap} {A:Around} {outer:List Env} {s:Shared} {H:Hp} (e:Env0 P w K mg base A outer s H) :
    Env0 P w K mg base A.in1 outer s H:=⟨e.frames,e.mod,e.bs,e.bsz,e.funs,e.frf,e.hok,e.bare⟩
section
variable {X:Cx} {pins:List (Addr × Obj)} {σ:St} {H:Hp} {s s':Shared}
theorem Inv.env0 (I:Inv X pins σ H s):Env0 X.prog X.w X.K X.mg X.base X.A X.stack s H :=
  ⟨I.ok.frames,I.ok.mod,I.bs,Nat.le_trans I.ok.bsz I.sz,I.stack,I.stkFree,I.hok,I.bare⟩
theorem Inv.after {Q:VK} {u:Value} (I:Inv X pins σ H s) (h:CE X.stack X.prog X.w H s Q u s'):EP X pins σ Q u s':=by
  obtain ⟨v,H',os,bare,un,hok,r,q⟩:=h
  obtain ⟨hh,g,d,t,os'⟩:=s'
  obtain rfl:os' = s.os:=os
  exact ⟨v,H',I.call (h':=hh) (g':=g) (d':=d) (t':=t) (ch:=[]) un hok bare (fun b z=>absurd z (by simp)),r,q⟩
end
def tCall (sp:Sp) (dvs:List V) (E:XK) (t:TA):TE:=fun σ H Q=>t σ H fun vs H1=>sp (vs++dvs) H1 Q E
def Binds (K:PySem.W.Frag) (fd:FuncData) (ps:List Str) (ds:List Value):Prop :=
  ∀ (s:Shared) (us:List Value),K.In s.heap→(us++ds).length=ps.length→BindsTo s fd ⟨us,[]⟩ (ps.zip (us++ds))
theorem Binds.all {K:PySem.W.Frag} {fd:FuncData} {ps:List Str} (h:∀ us:List Value,us.length=ps.length→bindArgs fd ⟨us,[]⟩=pure (ps.zip us)):Binds K fd ps []:=fun s us _ hl=>by
  rw [List.append_nil] at hl ⊢
  exact .of_eq (h us hl)
def Passes (CX:CXT) (X:Cx) (E:XK):Prop:=∀ (pins:List (Addr × Obj)) (σ:St) (H:Hp) (s:Shared) (e:Value) (s':Shared),Inv X pins σ H s→CX X.stack H s E e s'→X.xe e s'
section
variable {X:Cx} {CX:CXT} {k:Nat} {f C:Addr} {fd:FuncData} {ps:List Str} {sp:Sp} {dvs:List V} {ds:List Value} {E:XK} {x m:Str} {p pos apos:Pos} {e o:Expr} {es:List Expr} {ta:TE} {t:TA}
theorem run_fn {pins:List (Addr × Obj)} {σ:St} {H:Hp} {s:Shared} {Q:VK} {us:List Value} {vs:List V} (F:FnOk X.prog X.w X.K X.mg X.base CX k f fd ps sp) (hr:Room k X.A) (hb:Binds X.K fd ps ds) (hd:Vals dvs ds) (hx:Passes CX X E)
    (I:Inv X pins σ H s) (r:Vals vs us) (h:sp (vs++dvs) H Q E):wpAny (model X.prog X.w) X.A (call (.ref f) us) (EP X pins σ Q) X.xe s:=by
  have r2:Vals (vs++dvs) (us++ds):=r.append hd
  have hl:(us++ds).length=ps.length:=by rw [← r2.length];exact F.len _ _ _ _ h
  refine wpAny_call (codeAny_mono (F.run X.A X.stack s H ⟨us,[]⟩ (us++ds) (vs++dvs) Q E hr I.env0 (hb s us I.kIn hl) r2 h) fun r s' hq=>?_)
  cases r with
  | error e=>exact hx pins σ H s e s' I hq
  | ok fl =>
    cases fl with
    | ret u=>exact I.after hq
    | next=>exact False.elim hq
    | brk=>exact False.elim hq
    | cont=>exact False.elim hq
theorem pe_call (F:FnOk X.prog X.w X.K X.mg X.base CX k f fd ps sp) (hr:Room k X.A) (hg:Gl X x) (hm:X.mg x=some (.ref f)) (hk:PySem.W.keepIn X.K (.ref f)=true) (hb:Binds X.K fd ps ds) (hd:Vals dvs ds) (hx:Passes CX X E)
    (ha:PA X (e::es) t) (hdb:(x==("__debug__" : Str))=false:=by decide) (he:starEach (e::es) X.env=(false,eval e X.env)::starEach es X.env:=by rfl) (hpl:(backTo pos (starEach es X.env)).any (·.1)=false:=by rfl) :
    PE X (.Call (.Name x p) (e::es) [] pos) (tCall sp dvs E t):=by
  intro pins s σ H Q I h
  refine wpAny_Call_Name_kw (ld_glob I hg hm ?_ hdb)
  refine PySem.W.callWith_K (h₀:=X.base) I.ok.mod.kin hk (thn (ha pos pins s σ H _ I h) fun us s1 ⟨vs,H1,I1,r,q⟩=>⟨I1.kIn,?_⟩) he hpl
  exact run_fn F hr hb hd hx I1 r q
structure Mk (K:PySem.W.Frag) (C f:Addr):Prop where
  makes:PySem.W.makesIn K C=true
  init:PySem.W.findIn K (.ref C) "__init__" = some (some (.ref f))
  fn:PySem.W.isFn K (.ref f)=true
  kp:PySem.W.keepIn K (.ref C)=true
end
def PK (X:Cx) (kws:List Keyword) (t:TA):Prop :=
  ∀ (pos:Pos) (pins:List (Addr × Obj)) (s:Shared) (σ:St) (H:Hp) (Q:List V→Hp→Prop),Inv X pins σ H s→t σ H Q→wpAny (model X.prog X.w) X.A (evalAll ((backToKw pos (keywordEach kws X.env)).map (·.2))) (AP X pins σ Q) X.xe s
section
variable {X:Cx} {CX:CXT} {k:Nat} {f C:Addr} {fd:FuncData} {ps ks:List Str} {sp:Sp} {E:XK} {x m:Str} {p pos apos kpos:Pos} {e o:Expr} {es:List Expr} {kws:List Keyword} {te ta:TE} {t tk:TA} {nm:Option Str}
theorem pk_nil:PK X [] tNil:=fun _ _ _ _ H Q I h=>wpAny_evalAll_nil ⟨[],H,I,.nil,h⟩
theorem pk_cons (ha:PE X e te) (hr:PK X kws t):PK X (⟨nm,e,kpos⟩ :: kws) (tCons te t):=by
  intro pos pins s σ H Q I h
  show wpAny _ _ (evalAll ((do let v ← eval e X.env;standAt pos;pure v)::(backToKw pos (keywordEach kws X.env)).map (·.2))) _ _ s
  refine wpAny_evalAll_cons (wpAny_bind (thn (ha pins s σ H _ I h) fun u s1 ⟨x,H1,I1,r1,q1⟩=>wpAny_bind (wpAny_standAt (wpAny_pure ?_))))
  exact thn (hr pos pins s1 σ H1 _ I1 q1) fun us s2 ⟨xs,H2,I2,r2,q2⟩=>⟨x::xs,H2,I2,.cons r1 r2,q2⟩
structure KBinds (K:PySem.W.Frag) (fd:FuncData) (ps ks:List Str) (g:List Value→List Value→List Value) (gV:List V→List V→List V):Prop where
  to:∀ (s:Shared) (us ws:List Value),K.In s.heap→(g us ws).length=ps.length→BindsTo s fd ⟨us,ks.zip ws⟩ (ps.zip (g us ws))
  rel:∀ {vs:List V} {us:List Value} {zs:List V} {ws:List Value},Vals vs us→Vals zs ws→Vals (gV vs zs) (g us ws)
variable {g:List Value→List Value→List Value} {gV:List V→List V→List V}
end
structure FnScope (N P:List Str) (sc:Scope):Prop where
  kind:sc.kind = .function
  co:sc.isCoroutine=false
  gen:sc.isGenerator=false
  nd:N.Nodup
  pre:N.take P.length=P
  par:∀ x∈P,sc.names.lookup x=some .local∨sc.names.lookup x=some .cell
  nofree:∀ y∈sc.names,y.2≠.free
theorem bindL_out {kindOf:Str→Option NameKind} {x:Str}:∀ {binds:List (Str × Value)} {m:Str→Option Value},(∀ v,(x,v)∉binds)→bindL kindOf binds m x=m x
  | [],_,_=>rfl
  | (n,v)::r,m,h=>by
    unfold bindL
    rw [bindL_out fun w hw=>h w (List.mem_cons_of_mem _ hw)]
    split
    · have:x≠n:=by rintro rfl;exact h v List.mem_cons_self
      simp [this]
    · rfl
theorem bindC_out {kindOf:Str→Option NameKind} {x:Str}:∀ {binds:List (Str × Value)} {m:Str→Option Value},(∀ v,(x,v)∉binds)→bindC kindOf binds m x=m x
  | [],_,_=>rfl
  | (n,v)::r,m,h=>by
    unfold bindC
    rw [bindC_out fun w hw=>h w (List.mem_cons_of_mem _ hw)]
    split
    · rfl
    · have:x≠n:=by rintro rfl;exact h v List.mem_cons_self
      simp [this]
theorem bindL_get {kindOf:Str→Option NameKind} {x:Str} {v:Value}:∀ {P:List Str} {vs:List Value} {i:Nat} {m:Str→Option Value},P.Nodup→P[i]? = some x→vs[i]? = some v→kindOf x=some .local →
    bindL kindOf (P.zip vs) m x=some v
  | [],_,_,_,_,h,_,_=>by simp at h
  | _::_,[],_,_,_,_,h,_=>by simp at h
  | p::P,w::vs,0,m,nd,h1,h2,hk=>by
    simp at h1 h2;subst h1;subst h2
    show bindL kindOf ((p,w)::P.zip vs) m p=_
    unfold bindL
    rw [bindL_out fun v hv=>(List.nodup_cons.mp nd).1 (List.of_mem_zip hv).1,if_pos hk]
    simp
  | p::P,w::vs,i+1,m,nd,h1,h2,hk=>by
    show bindL kindOf ((p,w)::P.zip vs) m x=_
    unfold bindL
    exact bindL_get (i:=i) (List.nodup_cons.mp nd).2 (by simpa using h1) (by simpa using h2) hk
theorem bindC_get {kindOf:Str→Option NameKind} {x:Str} {v:Value}:∀ {P:List Str} {vs:List Value} {i:Nat} {m:Str→Option Value},P.Nodup→P[i]? = some x→vs[i]? = some v→kindOf x≠some .local →
    bindC kindOf (P.zip vs) m x=some v
  | [],_,_,_,_,h,_,_=>by simp at h
  | _::_,[],_,_,_,_,h,_=>by simp at h
  | p::P,w::vs,0,m,nd,h1,h2,hk=>by
    simp at h1 h2;subst h1;subst h2
    show bindC kindOf ((p,w)::P.zip vs) m p=_
    unfold bindC
    rw [bindC_out fun v hv=>(List.nodup_cons.mp nd).1 (List.of_mem_zip hv).1,if_neg hk]
    simp
  | p::P,w::vs,i+1,m,nd,h1,h2,hk=>by
    show bindC kindOf ((p,w)::P.zip vs) m x=_
    unfold bindC
    exact bindC_get (i:=i) (List.nodup_cons.mp nd).2 (by simpa using h1) (by simpa using h2) hk
def start (N:List Str) (vs:List V):St:=vs.map some++List.replicate (N.length-vs.length) none
def cxOf (CX:CXT) (P:Program) (w:World) (K:PySem.W.Frag) (mg:Str→Option Value) (base:Heap) (N:List Str) (qual:Str) (scope:Scope) (f:Addr) (cd:Value) (A:Around) (outer:List Env) (s:Shared) (H:Hp) (E:XK):Cx where
  prog:=P
  w:=w
  K:=K
  mg:=mg
  base:=base
  A:=A.deeper (envOfC qual scope s.heap.objs.size f cd)
  N:=N
  s₀:=s
  H₀:=H
  env:=envOfC qual scope s.heap.objs.size f cd
  outer:=outer
  stack:=envOfC qual scope s.heap.objs.size f cd::outer
  ex:=[]
  calm:=true
  fn:=fun _=>true
  pn:=[]
  xe:=fun e s'=>wpAny (model P w) (A.deeper (envOfC qual scope s.heap.objs.size f cd)) (leaving (envOfC qual scope s.heap.objs.size f cd) e) (fun _ s''=>CX outer H s E e s'') (fun e' s''=>CX outer H s E e' s'') s'
theorem cell_has {sc:Scope} {n:Nat} {x:Str} (h:sc.names.lookup x=some .cell):∃ c,(cellsFrom n sc.names []).lookup x=some c:=by
  have q:=PySem.W.cellsFrom_some sc.names n [] (.inl h)
  exact Option.isSome_iff_exists.mp q
theorem inv_start {CX:CXT} {P:Program} {w:World} {K:PySem.W.Frag} {mg:Str→Option Value} {base:Heap} {N ps:List Str} {qual:Str} {scope:Scope} {f:Addr} {cd:Value} {A:Around} {outer:List Env} {s s1:Shared} {H:Hp} {E:XK} {us:List Value} {vs:List V}
    (S:FnScope N ps scope) (hd:A.handled=none) (e0:Env0 P w K mg base A outer s H) (hl:vs.length=ps.length) (r:Vals vs us)
    (x:InCallC s s.heap.objs.size (bindL (envOfC qual scope s.heap.objs.size f cd).kindOf (ps.zip us) fun _=>none) (cellsFrom (s.heap.objs.size+1) scope.names []) (bindC (envOfC qual scope s.heap.objs.size f cd).kindOf (ps.zip us) fun _=>none) s1) :
    Inv (cxOf CX P w K mg base N qual scope f cd A outer s H E) [] (start N vs) H s1:=by
  have hpl:ps.length≤N.length:=by have:=congrArg List.length S.pre;rw [List.length_take] at this;omega
  obtain ⟨h1,tk,rfl,hk⟩:=x.done
  have noA:∀ b:Addr,b∉(cxOf CX P w K mg base N qual scope f cd A outer s H E).ex:=fun b z=>absurd (show b∈([]:List Addr) from z) (by simp)
  refine ⟨⟨e0.mod,S.kind,rfl,rfl,Nat.le_refl _,fun y z c h1 h2=>?_,fun y hy=>?_,fun y c _ h=>?_,fun _=>hd,Around.frames_deeper e0.frames,.inr ⟨rfl,rfl⟩,fun b z=>absurd z (noA b),e0.bs,e0.bsz,fun b _ _=>noA b,fun b z=>absurd z (noA b),e0.funs,e0.frf⟩,
    rfl,e0.bare,Un.kept hk,⟨_,x.toInCall.ns,fun i y v h1 h2 h3=>?_⟩,fun y c h=>⟨_,x.cell y c h⟩,e0.hok.fresh (Nat.le_refl _),fun y c h=>?_,fun p hp=>absurd (show p∈([]:List (Addr × Obj)) from hp) (by simp),e0.hok.kept hk,?_⟩
  · exact name_of_addr x.apart (PySem.mem_of_lookup h1) (PySem.mem_of_lookup h2)
  · have hy:scope.names.lookup y=some .cell∨scope.names.lookup y=some .free:=hy
    rcases hy with hy | hy
    · exact cell_has hy
    · exact absurd rfl (S.nofree _ (PySem.mem_of_lookup hy))
  · exact Nat.le_of_lt (x.above y c (PySem.mem_of_lookup h))
  · have hi:i<vs.length:=by
      unfold start at h2
      by_cases hi:i<vs.length
      · exact hi
      · rw [List.getElem?_append_right (by simpa using hi)] at h2
        rw [List.getElem?_replicate] at h2
        split at h2<;>cases h2
    have ha:vs[i]? = some v:=by
      unfold start at h2
      rw [List.getElem?_append_left (by simpa using hi),List.getElem?_map] at h2
      cases e:vs[i]? with
      | none=>rw [e] at h2;cases h2
      | some a=>rw [e] at h2;cases h2;rfl
    obtain ⟨u,hu,rv⟩:=r.get ha
    have hp:ps[i]? = some y:=by
      rw [← S.pre,List.getElem?_take_of_lt (by omega)];exact h1
    have ndP:ps.Nodup:=by rw [← S.pre];exact S.nd.sublist (List.take_sublist _ _)
    refine ⟨u,rv,?_⟩
    rcases S.par y (List.mem_of_getElem? hp) with k | k
    · exact .inl ⟨k,bindL_get ndP hp hu k⟩
    · obtain ⟨c,e⟩:=cell_has (n:=s.heap.objs.size+1) k
      refine .inr ⟨.inl k,c,e,?_⟩
      have q:=x.cell y c e
      rw [bindC_get ndP hp hu (by show scope.names.lookup y≠_;rw [k];decide)] at q
      exact q
  · exact e0.hok.fresh (Nat.le_of_lt (x.above y c (PySem.mem_of_lookup h)))
  · unfold start
    show _=N.length
    rw [List.length_append,List.length_map,List.length_replicate]
    omega
theorem fn_of {CX:CXT} {P:Program} {w:World} {K:PySem.W.Frag} {mg:Str→Option Value} {base:Heap} {k:Nat} {f:Addr} {name qual:Str} {params:Arguments} {body:List Stmt} {scope:Scope} {dV kV doc pm cdv ct oc:Value} {an od:Option Addr}
    {osl:Array (Option Value)} {N ps:List Str} {sp:Sp} (lk:K.lookup f=some ⟨oc,od,.func (PySem.W.fnOf name qual params body scope dV kV doc pm an cdv ct),osl⟩) (hcd:PySem.W.codeIn K cdv qual=true) (S:FnScope N ps scope)
    (len:∀ vs H Q E,sp vs H Q E→vs.length=ps.length)
    (hbody:∀ (A:Around) (outer:List Env) (s:Shared) (H:Hp) (vs:List V) (Q:VK) (E:XK),Room k (A.deeper (envOfC qual scope s.heap.objs.size f cdv))→sp vs H Q E →
      ∃ t,PSs (cxOf CX P w K mg base N qual scope f cdv A outer s H E) body t∧t { nx:=fun _ H'=>Q .non H',rt:=Q } (start N vs) H) :
    FnOk P w K mg base CX (k+1) f (PySem.W.fnOf name qual params body scope dV kV doc pm an cdv ct) ps sp:=by
  refine ⟨len,fun A outer s H args us vs Q E hr e0 hb r hsp=>?_⟩
  have hl:=len _ _ _ _ hsp
  have KX:K.In s.heap:=e0.mod.kin.keeps fun b o e=>(e0.bs b o e).1
  have lim:s.heap.NoLimit:=e0.mod.nolimit.keeps fun b o e=>(e0.bs b o e).1
  have hkind:∀ y∈ps.zip us,scope.names.lookup y.1=some .local∨(scope.names.lookup y.1=some .cell∧((cellsFrom (s.heap.objs.size+1) scope.names []).lookup y.1).isSome=true):=fun ⟨n,v⟩ hy=>by
    rcases S.par n (List.of_mem_zip hy).1 with q | q
    · exact .inl q
    · exact .inr ⟨q,PySem.W.cellsFrom_some _ _ _ (.inl q)⟩
  refine codeAny_call_function hr.depth (KX _ _ lk) rfl S.co S.gen rfl (PySem.W.codeRec_of KX hcd) (hb _ _ _ _ ?_)
  refine wpAny_newFunctionEnv_cells S.kind hkind fun env he s1 x=>?_
  subst he
  refine ⟨lim.keeps x.toInCall.keep,codeAny_func ?_⟩
  obtain ⟨t,ht,hq⟩:=hbody A outer s H vs Q E (hr.deeper _) hsp
  have I:Inv (cxOf CX P w K mg base N qual scope f cdv A outer s H E) [] (start N vs) H s1:=inv_start S hr.hd e0 hl r x
  refine wpAny_mono (ht [] s1 (start N vs) H _ I hq) (fun fl s' hs=>?_) fun e s' hs=>hs
  have fin:∀ {σ':St} {H':Hp} {v:V} {u:Value},Inv (cxOf CX P w K mg base N qual scope f cdv A outer s H E) [] σ' H' s'→RelV v u→Q v H'→CE outer P w H s Q u s' :=
    fun {σ' H' v u} J rv q=>⟨v,H',J.os,J.bare,J.base,J.hok,rv,q⟩
  cases fl with
  | ret u =>
    obtain ⟨v,σ',H',J,rv,q⟩:=hs
    exact fin J rv q
  | next =>
    obtain ⟨σ',H',J,q⟩:=hs
    exact fin (v:=V.non) (u:=Value.none) J rfl q
  | brk =>
    obtain ⟨_,_,_,q⟩:=hs
    exact False.elim q
  | cont =>
    obtain ⟨_,_,_,q⟩:=hs
    exact False.elim q
end L2
namespace L2
open PySem PySem.Spec PyProof.Rows
section
variable {X:Cx} {x:Str} {p pos:Pos} {e:Expr} {es:List Expr} {t:TA} {id T:String} {r:List V→Hp→VK→Prop}
def tCB (r:List V→Hp→VK→Prop) (t:TA):TE:=fun σ H Q=>t σ H fun vs H1=>r vs H1 Q
theorem pe_callB (hc:CallR X (.builtin id) r) (hg:Gl X x) (hm:X.mg x=none) (hv:bootBuiltins x=some (.builtin id)) (ha:PA X (e::es) t) (hn:x ≠ "__name__" := by decide) (hdb:(x==("__debug__" : Str))=false:=by decide)
    (he:starEach (e::es) X.env=(false,eval e X.env)::starEach es X.env:=by rfl) (hpl:(backTo pos (starEach es X.env)).any (·.1)=false:=by rfl):PE X (.Call (.Name x p) (e::es) [] pos) (tCB r t):=by
  intro pins s σ H Q I h
  refine wpAny_Call_Name_kw (ld_blt I hg hm hv ?_ hn hdb)
  exact PyProof.Rows.callWith_builtin1 (thn (ha pos pins s σ H _ I h) fun us s1 ⟨vs,H1,I1,r1,q1⟩=>hc pins s1 σ H1 vs us Q I1 r1 q1) he hpl
theorem pe_callTy (hc:CallR X (.type T) r) (hg:Gl X x) (hm:X.mg x=none) (hv:bootBuiltins x=some (.type T)) (ha:PA X (e::es) t) (hn:x ≠ "__name__" := by decide) (hdb:(x==("__debug__" : Str))=false:=by decide)
    (he:starEach (e::es) X.env=(false,eval e X.env)::starEach es X.env:=by rfl) (hpl:(backTo pos (starEach es X.env)).any (·.1)=false:=by rfl):PE X (.Call (.Name x p) (e::es) [] pos) (tCB r t):=by
  intro pins s σ H Q I h
  refine wpAny_Call_Name_kw (ld_blt I hg hm hv ?_ hn hdb)
  exact PyProof.Rows.callWith_type1 (thn (ha pos pins s σ H _ I h) fun us s1 ⟨vs,H1,I1,r1,q1⟩=>hc pins s1 σ H1 vs us Q I1 r1 q1) he hpl
end
end L2
namespace HT
open PySem PyProof.Rows
section
open PySem.SeqAt
open PySem.AutoSeq1 (wpAny_loadPart')
open PySem.MeetsSeq PySem.MeetsSeq2 PySem.MeetsSeq3
end
section
variable {prog:Program} {w:World} {A:Around} {E:Value→Shared→Prop} {s:Shared}
theorem cat_tup {t b:Addr} {vs ws:List Value} {Q:Value→Shared→Prop} (ht:IsTup s.heap t vs.toArray) (hb:IsTup s.heap b ws.toArray) (hv:vs≠[])
    (h1:ws=[]→Q (.ref t) s) (h2:ws≠[]→Q (.ref s.heap.objs.size) { s with heap:=s.heap.push { cls:=.type "tuple", data:=.seq (vs++ws).toArray } })
    (hsz:vs.length+ws.length≤sizeLine):wpAny (model prog w) A (binaryOp .Add (.ref t) (.ref b)) Q E s:=by
  obtain ⟨⟨cls,dd,data,sl⟩,ho,hc,n,hd⟩:=id ht
  obtain ⟨⟨cls2,dd2,data2,sl2⟩,ho2,hc2,n2,hd2⟩:=id hb
  simp only at hc hd hc2 hd2
  subst hc hd hc2 hd2
  have e:vs.toArray++ws.toArray=(vs++ws).toArray:=by simp
  by_cases hw:ws=[]
  · exact concat_meets ⟨_,ho,rfl⟩ ⟨_,ho2,rfl⟩ noFill_tuple_add seq_tuple_add PySem.F.slot_tuple_add PySem.F.entry_tuple_add (PySem.F.args_tuple_add_2 _ _)
      (tuple_addW1 t b vs.toArray ws.toArray n n2 dd dd2 sl sl2 (by simpa using hv) (by simp [hw])) ⟨ho,ho2,h1 hw⟩
  · refine concat_meets ⟨_,ho,rfl⟩ ⟨_,ho2,rfl⟩ noFill_tuple_add seq_tuple_add PySem.F.slot_tuple_add PySem.F.entry_tuple_add (PySem.F.args_tuple_add_2 _ _)
      (tuple_addW2 t b vs.toArray ws.toArray n n2 dd dd2 sl sl2 (by simpa using hv) (by simpa using hw) (by rw [List.size_toArray,List.size_toArray];exact hsz)) ⟨ho,ho2,?_⟩
    rw [e]
    exact h2 hw
def sIx (n d:Nat):Option Int→Nat
  | none=>d
  | some v=>if v<0 then (v+(n:Int)).toNat else min v.toNat n
theorem sIx_none (n d:Nat):sIx n d none=d:=rfl
theorem sIx_nat (n d k:Nat):sIx n d (some (k:Int))=min k n:=by
  show (if (k:Int)<0 then ((k:Int)+(n:Int)).toNat else min (k:Int).toNat n)=min k n
  rw [if_neg (by omega),Int.toNat_natCast]
theorem sIx_le (n d:Nat) (hd:d≤n) (o:Option Int):sIx n d o≤n:=by
  cases o with
  | none=>exact hd
  | some v =>
    show (if v<0 then (v+(n:Int)).toNat else min v.toNat n)≤n
    by_cases hv:v<0
    · rw [if_pos hv];omega
    · rw [if_neg hv];exact Nat.min_le_right _ _
theorem clip_eq (v:Int) (n d:Nat):(if v<0 then max (v+(n:Int)) 0 else min v (n:Int))=((sIx n d (some v):Nat):Int):=by
  show (if v<0 then max (v+(n:Int)) 0 else min v (n:Int))=(((if v<0 then (v+(n:Int)).toNat else min v.toNat n):Nat):Int)
  by_cases hv:v<0
  · simp only [if_pos hv];omega
  · simp only [if_neg hv];omega
theorem adjust_gen (lo hi:Option Int) (n:Nat):Builtin.Slice.sliceAdjust lo hi 1 (n:Int)=(((sIx n 0 lo:Nat):Int),((sIx n n hi:Nat):Int)):=by
  have h1:¬ ((1:Int)<0):=by omega
  unfold Builtin.Slice.sliceAdjust
  simp only [h1,if_false]
  refine Prod.ext ?_ ?_
  · cases lo with
    | none=>rfl
    | some v=>exact clip_eq v n 0
  · cases hi with
    | none=>rfl
    | some v=>exact clip_eq v n n
theorem places_gen (i j:Nat):Builtin.Slice.slicePlaces (i:Int) (j:Int) 1=j-i:=by
  unfold Builtin.Slice.slicePlaces
  have h1:(1:Int) > 0:=by omega
  simp only [h1,if_true,Int.ediv_one]
  split<;>omega
theorem slicePart_ {v:Value} {o:Option Int} {Q:Option Int→Shared→Prop} (p:IsPart v o) (h:Q o s):wpAny (model prog w) A (Builtin.Slice.slicePartIndex v) Q E s:=by
  cases p with
  | none=>exact slicePart_none h
  | int i t=>exact slicePart_int h
theorem sliceApplied_gen {sl:Addr} {vl vu:Value} {lo hi:Option Int} {n:Nat} {Q:Int × Int × Nat→Shared→Prop} (hs:s.heap.IsSliceOf sl vl vu .none) (pl:IsPart vl lo) (pu:IsPart vu hi)
    (h:Q (((sIx n 0 lo:Nat):Int),1,sIx n n hi-sIx n 0 lo) s):wpAny (model prog w) A (Builtin.Slice.sliceApplied (.ref sl) (pure (n:Int))) Q E s:=by
  obtain ⟨os,hos,hcs,hds⟩:=id hs
  unfold Builtin.Slice.sliceApplied Builtin.Slice.sliceFields
  refine wpAny_bind (wpAny_bind (wpAny_field hos hds (x:=vl) rfl (wpAny_bind (wpAny_field hos hds (x:=vu) rfl (wpAny_bind (wpAny_field hos hds (x:=.none) rfl (wpAny_pure ?_)))))))
  refine wpAny_bind (slicePart_none ?_)
  show wpAny _ _ (if ((1:Int)==0)=true then _ else _) _ _ s
  rw [if_neg (by decide)]
  refine wpAny_bind (slicePart_ pl (wpAny_bind (slicePart_ pu (wpAny_bind (wpAny_pure ?_)))))
  show wpAny _ _ (match Builtin.Slice.sliceAdjust lo hi 1 (n:Int) with | (lo,hi)=>pure (lo,(1:Int),Builtin.Slice.slicePlaces lo hi 1)) _ _ s
  rw [adjust_gen lo hi n]
  show wpAny _ _ (pure (((sIx n 0 lo:Nat):Int),(1:Int),Builtin.Slice.slicePlaces ((sIx n 0 lo:Nat):Int) ((sIx n n hi:Nat):Int) 1)) _ _ s
  rw [places_gen]
  exact wpAny_pure h
theorem pick_gen (xs:Array Value) (i k:Nat):((List.range k).filterMap fun (m:Nat)=>xs[((i:Int)+(m:Int)*1).toNat]?).toArray=((xs.toList.drop i).take k).toArray:=by
  have e:(fun (m:Nat)=>xs[((i:Int)+(m:Int)*1).toNat]?)=fun m=>xs[i+m]?:=by
    funext m
    have:((i:Int)+(m:Int)*1).toNat=i+m:=by omega
    rw [this]
  rw [e]
  have:=pick_run xs i k
  rw [List.filterMap_map] at this
  have e2:((fun x=>xs[x]?) ∘ fun x=>i+x)=fun m=>xs[i+m]?:=rfl
  rw [e2] at this
  rw [this]
theorem getItem_tuple_cut {t sl:Addr} {items:Array Value} {vl vu:Value} {lo hi:Option Int} {Q:Value→Shared→Prop} (ht:IsTup s.heap t items) (hs:s.heap.IsSliceOf sl vl vu .none) (pl:IsPart vl lo) (pu:IsPart vu hi)
    (hw:¬ (sIx items.size 0 lo=0∧sIx items.size items.size hi=items.size))
    (h:Q (.ref s.heap.objs.size) { s with heap:=s.heap.push { cls:=.type "tuple", data:=.seq ((items.toList.drop (sIx items.size 0 lo)).take (sIx items.size items.size hi-sIx items.size 0 lo)).toArray } })
    (hsz:items.size≤sizeLine):wpAny (model prog w) A (getItem (.ref t) (.ref sl)) Q E s:=by
  have htake:sizeOk (.seq ((items.toList.drop (sIx items.size 0 lo)).take (sIx items.size items.size hi-sIx items.size 0 lo)).toArray):=by
    show ((items.toList.drop (sIx items.size 0 lo)).take (sIx items.size items.size hi-sIx items.size 0 lo)).toArray.size≤sizeLine
    rw [List.size_toArray,List.length_take,List.length_drop,Array.length_toList]
    omega
  have hj:sIx items.size items.size hi≤items.size:=sIx_le _ _ (Nat.le_refl _) hi
  obtain ⟨os,hos,hcs,hds⟩:=id hs
  have hTs:s.TypeIs (.ref sl) "slice" := ⟨os,hos,hcs⟩
  unfold getItem
  try with_reducible refine wpAny_holding ?_
  first | refine wpAny_bind (wpAny_pure ?_) | skip
  refine wpAny_bind (wpAny_sequenceKey ht.typeIs (by decide) ?_)
  refine wpAny_bind (wpAny_callSpecial?_slot (name:=Str.ofString "__getitem__") ht.typeIs PyProof.Rows.slot_tuple_getitem
    (wpAny_call_entry PyProof.Rows.slot_tuple_getitem ht.typeIs entry_tuple_getitem ?_ (args_tuple_getitem _ _)))
  show wpAny _ _ (Builtin.Tuple.tupleItemsOf (.ref t) >>= _) _ _ s
  refine wpAny_bind (tupleItemsOf_ ht ?_)
  refine wpAny_bind (wpAny_typeOf hTs ?_)
  rw [if_pos (by decide)]
  refine wpAny_bind (sliceApplied_gen hs pl pu ?_)
  have hno:¬ ((((sIx items.size 0 lo:Nat):Int)==0&&(1:Int)==1&&(sIx items.size items.size hi-sIx items.size 0 lo)==items.size)=true):=by
    intro q
    rw [Bool.and_eq_true,Bool.and_eq_true] at q
    have q1:((sIx items.size 0 lo:Nat):Int)=0:=eq_of_beq q.1.1
    have q2:sIx items.size items.size hi-sIx items.size 0 lo=items.size:=eq_of_beq q.2
    exact hw ⟨by omega,by omega⟩
  show wpAny _ _ (if (((sIx items.size 0 lo:Nat):Int)==0&&(1:Int)==1&&(sIx items.size items.size hi-sIx items.size 0 lo)==items.size)=true then _ else _) _ _ s
  rw [if_neg hno,pick_gen]
  first
    | exact wpAny_bind (m:=Builtin.Tuple.tupleExact _) (wpAny_newObj_type (wpAny_pure ⟨_,rfl,wpAny_pure h⟩) htake)
    | exact wpAny_bind (m:=Builtin.Tuple.tupleExact _) (wpAny_newObj_type (wpAny_bind (wpAny_pure (wpAny_pure ⟨_,rfl,wpAny_pure h⟩))) htake)
    | exact wpAny_bind (wpAny_bind (m:=Builtin.Tuple.tupleExact _) (wpAny_newObj_type (wpAny_pure (wpAny_pure ⟨_,rfl,wpAny_pure h⟩)) htake))
    | exact wpAny_bind (wpAny_bind (m:=Builtin.Tuple.tupleExact _) (wpAny_newObj_type (wpAny_pure ⟨_,rfl,wpAny_pure h⟩) htake))
end
end HT
namespace L2
open PySem PySem.Spec PyProof.Rows
abbrev TO:=St→Hp→(Option Int→Hp→Prop)→Prop
def PO (X:Cx) (e:Option Expr) (t:TO):Prop :=
  ∀ (pins:List (Addr × Obj)) (s:Shared) (σ:St) (H:Hp) (Q:Option Int→Hp→Prop),Inv X pins σ H s→t σ H Q →
    wpAny (model X.prog X.w) X.A (evalPart e X.env) (fun u s'=>∃ o H',Inv X pins σ H' s'∧IsPart u o∧Q o H') X.xe s
def tNoPart:TO:=fun _ H Q=>Q none H
def tPart (t:TE):TO:=fun σ H Q=>t σ H fun x H1=>∃ i,x = .int i∧Q (some i) H1
section
variable {X:Cx} {e:Expr} {te:TE} {lo hi:Option Expr} {tl th:TO} {pos p2:Pos}
theorem po_none:PO X none tNoPart:=by
  intro pins s σ H Q I h
  rw [evalPart_none]
  exact wpAny_pure ⟨none,H,I,.none,h⟩
theorem po_some (h:PE X e te):PO X (some e) (tPart te):=by
  intro pins s σ H Q I hw
  rw [evalPart_some]
  refine thn (h pins s σ H _ I hw) fun u s1 ⟨x,H1,I1,r1,q1⟩=>?_
  obtain ⟨i,rfl,q⟩:=q1
  obtain ⟨t,rfl⟩:=r1
  exact ⟨some i,H1,I1,.int i t,q⟩
def SlR (X:Cx) (r:V→Option Int→Option Int→Hp→VK→Prop):Prop :=
  ∀ (pins:List (Addr × Obj)) (s:Shared) (σ:St) (H:Hp) (x:V) (v vl vu:Value) (lo hi:Option Int) (sl:Addr) (Q:VK),Inv X pins σ H s→RelV x v→s.heap.IsSliceOf sl vl vu .none→IsPart vl lo→IsPart vu hi→r x lo hi H Q →
    ∃ T id,typeLookup (.type T) "__getitem__" = pure (some (.builtin id))∧s.TypeIs v T∧wpAny (model X.prog X.w) X.A (getItem v (.ref sl)) (EP X pins σ Q) X.xe s
theorem SlR.or {r r':V→Option Int→Option Int→Hp→VK→Prop} (h:SlR X r) (h':SlR X r'):SlR X (fun x lo hi H Q=>r x lo hi H Q∨r' x lo hi H Q):=by
  intro pins s σ H x v vl vu lo hi sl Q I rx hs pl pu q
  rcases q with q | q
  · exact h pins s σ H x v vl vu lo hi sl Q I rx hs pl pu q
  · exact h' pins s σ H x v vl vu lo hi sl Q I rx hs pl pu q
def tSl (r:V→Option Int→Option Int→Hp→VK→Prop) (te:TE) (tl th:TO):TE:=fun σ H Q=>te σ H fun x H1=>tl σ H1 fun l H2=>th σ H2 fun u H3=>r x l u H3 Q
theorem pe_slice {r:V→Option Int→Option Int→Hp→VK→Prop} (hr:SlR X r) (he:PE X e te) (hl:PO X lo tl) (hu:PO X hi th):PE X (.Subscript e (.Slice lo hi none p2) pos) (tSl r te tl th):=by
  intro pins s σ H Q I h
  refine Subscript_ (thn (he pins s σ H _ I h) fun v s1 ⟨x,H1,I1,r1,q1⟩=>?_)
  refine wpAny_Slice (thn (hl pins s1 σ H1 _ I1 q1) fun vl s2 ⟨l,H2,I2,pl,q2⟩=>thn (hu pins s2 σ H2 _ I2 q2) fun vu s3 ⟨u,H3,I3,pu,q3⟩=>?_)
  rw [evalPart_none]
  refine wpAny_pure ?_
  have I4:Inv X pins σ H3 { s3 with heap:=s3.heap.push { cls:=.type "slice", data:=.fields #[vl,vu,.none] } }:=I3.kept (t':=s3.toks) fun b ob q=>Heap.get?_push_of_some _ q
  obtain ⟨T,id,hT,ht,hg⟩:=hr pins { s3 with heap:=s3.heap.push { cls:=.type "slice", data:=.fields #[vl,vu,.none] } } σ H3 x v vl vu l u s3.heap.objs.size Q I4 r1 (Heap.IsSliceOf.new ..) pl pu q3
  show wpAny (model X.prog X.w) X.A (subscriptTail e (.Slice lo hi none p2) v (.ref s3.heap.objs.size)) (EP X pins σ Q) X.xe { s3 with heap:=s3.heap.push { cls:=.type "slice", data:=.fields #[vl,vu,.none] } }
  exact tail_any (ops:=[.ref s3.heap.objs.size,v]) ht hT hg (by with_unfolding_all rfl)
def cutV (xs:List V) (lo hi:Option Int):List V:=(xs.drop (HT.sIx xs.length 0 lo)).take (HT.sIx xs.length xs.length hi-HT.sIx xs.length 0 lo)
theorem cutV_length (xs:List V) (lo hi:Option Int):(cutV xs lo hi).length≤xs.length:=by
  unfold cutV
  rw [List.length_take,List.length_drop]
  omega
def rSlT (K:PySem.W.Frag):V→Option Int→Option Int→Hp→VK→Prop:=fun x lo hi H Q=>∃ a xs,x = .ref a∧SqT K H a xs ∧
  ¬ (HT.sIx xs.length 0 lo=0∧HT.sIx xs.length xs.length hi=xs.length)∧∀ p,H p=none→Q (.ref p) (upd H p (.tup (cutV xs lo hi)))
theorem sl_tup:SlR X (rSlT X.K):=by
  intro pins s σ H x v vl vu lo hi sl Q I rx hs pl pu h
  obtain ⟨a,xs,rfl,hx,hw,q⟩:=h
  cases rx
  obtain ⟨its,r,ht,hz⟩:=I.tuple hx
  have hlen:its.toArray.size=xs.length:=by rw [List.size_toArray];exact r.length.symm
  refine ⟨"tuple", _,PyProof.Rows.slot_tuple_getitem.lookup,ht.typeIs,?_⟩
  refine HT.getItem_tuple_cut ht hs pl pu (by rw [hlen];exact hw) ?_ (by rw [hlen];exact hz)
  rw [hlen]
  refine ⟨.ref s.heap.objs.size,_,I.laid (t':=s.toks) (o:=.tup (cutV xs lo hi)) (fun b ob q=>Heap.get?_push_of_some _ q) (Nat.le_refl _) ?_,rfl,q _ (I.hok.fresh (Nat.le_refl _))⟩
  exact ⟨Nat.le_trans (cutV_length xs lo hi) hz,_,(r.drop (HT.sIx xs.length 0 lo)).take (HT.sIx xs.length xs.length hi-HT.sIx xs.length 0 lo),IsTup.new _ _⟩
def rCatT (K:PySem.W.Frag):R2:=fun x y H Q=>∃ a b xs ys,x = .ref a∧y = .ref b∧SqT K H a xs∧SqT K H b ys∧xs≠[]∧xs.length+ys.length≤sizeLine ∧
  (ys=[]→Q (.ref a) H)∧(ys≠[]→∀ p,H p=none→Q (.ref p) (upd H p (.tup (xs++ys))))
theorem Vals.nil_iff {xs:List V} {us:List Value} (r:Vals xs us):us=[]↔xs=[]:=by
  cases r with
  | nil=>simp
  | cons _ _=>simp
theorem op_catT:OpR X (binaryOp .Add) (rCatT X.K):=by
  intro pins s σ H x y v u Q I rx ry h
  obtain ⟨a,b,xs,ys,rfl,rfl,ha,hb,hx,hz,q1,q2⟩:=h
  cases rx
  cases ry
  obtain ⟨its,r1,p1,_⟩:=I.tuple ha
  obtain ⟨its2,r2,p2,_⟩:=I.tuple hb
  refine HT.cat_tup p1 p2 (fun z=>hx (r1.nil_iff.mp z)) (fun z=>⟨.ref a,H,I,rfl,q1 (r2.nil_iff.mp z)⟩) (fun z=>?_) (by rw [← r1.length,← r2.length];exact hz)
  refine ⟨.ref s.heap.objs.size,_,I.laid (t':=s.toks) (o:=.tup (xs++ys)) (fun b ob q=>Heap.get?_push_of_some _ q) (Nat.le_refl _) ?_,rfl,q2 (fun w=>z (r2.nil_iff.mpr w)) _ (I.hok.fresh (Nat.le_refl _))⟩
  exact ⟨by rw [List.length_append];exact hz,_,r1.append r2,IsTup.new _ _⟩
end
end L2
namespace L2
open PySem PySem.Spec PyProof.Rows
def ixN (n:Nat) (i:Int):Option Nat:=if 0≤i then (if i<n then some i.toNat else none) else if -(n:Int)≤i then some (i+n).toNat else none
def atI {α:Type} (xs:List α) (i:Int):Option α:=(ixN xs.length i).bind fun j=>xs[j]?
theorem ixN_seq {n:Nat} {i:Int} {j:Nat} (h:ixN n i=some j):seqIndex? i n=some j∧j<n∧-(n:Int)≤i∧i<n:=by
  unfold ixN at h
  by_cases h0:0≤i
  · rw [if_pos h0] at h
    by_cases h1:i<n
    · rw [if_pos h1] at h
      have e:i.toNat=j:=Option.some.inj h
      exact ⟨by rw [seqIndex_of h0 h1,e],by omega,by omega,h1⟩
    · rw [if_neg h1] at h;cases h
  · rw [if_neg h0] at h
    by_cases h1:-(n:Int)≤i
    · rw [if_pos h1] at h
      have e:(i+n).toNat=j:=Option.some.inj h
      exact ⟨by rw [seqIndex_neg (by omega) h1,e],by omega,h1,by omega⟩
    · rw [if_neg h1] at h;cases h
theorem atI_get {α:Type} {xs:List α} {i:Int} {v:α} (h:atI xs i=some v):∃ j,seqIndex? i xs.length=some j∧xs[j]? = some v∧j<xs.length∧-(xs.length:Int)≤i∧i<xs.length:=by
  unfold atI at h
  cases e:ixN xs.length i with
  | none=>rw [e] at h;cases h
  | some j =>
    rw [e] at h
    obtain ⟨h1,h2,h3,h4⟩:=ixN_seq e
    exact ⟨j,h1,h,h2,h3,h4⟩
theorem atI_nat {α:Type} {xs:List α} {j:Nat} {v:α} (h:xs[j]? = some v):atI xs (j:Int)=some v:=by
  have hj:j<xs.length:=(List.getElem?_eq_some_iff.mp h).1
  have e:ixN xs.length (j:Int)=some j:=by
    unfold ixN
    rw [if_pos (by omega),if_pos (by omega)];simp
  unfold atI;rw [e];exact h
def PlainIx (b:Expr):Prop:=∀ o i,subscripted b false o i=operate [o,i] (getItem o i)
def IxR (X:Cx) (r:R2):Prop :=
  ∀ (value slice:Expr) (pins:List (Addr × Obj)) (s:Shared) (σ:St) (H:Hp) (x y:V) (v u:Value) (Q:VK),Inv X pins σ H s→RelV x v→RelV y u→r x y H Q →
    subscripted slice false v u=operate [v,u] (getItem v u)→wpAny (model X.prog X.w) X.A (subscriptTail value slice v u) (EP X pins σ Q) X.xe s
def MtR (X:Cx) (id:String) (r:V→List V→Hp→VK→Prop):Prop :=
  ∀ (pins:List (Addr × Obj)) (s:Shared) (σ:St) (H:Hp) (x:V) (xs:List V) (v:Value) (us:List Value) (Q:VK),Inv X pins σ H s→RelV x v→Vals xs us→r x xs H Q →
    wpAny (model X.prog X.w) X.A (call (.builtin id) (v::us)) (EP X pins σ Q) X.xe s
section
variable {X:Cx} {a b:Expr} {ta tb:TE} {pos:Pos}
theorem IxR.or {r r':R2} (h:IxR X r) (h':IxR X r'):IxR X (fun x y H Q=>r x y H Q∨r' x y H Q):=by
  intro value slice pins s σ H x y v u Q I rx ry q hs
  rcases q with q | q
  · exact h value slice pins s σ H x y v u Q I rx ry q hs
  · exact h' value slice pins s σ H x y v u Q I rx ry q hs
theorem MtR.or {id:String} {r r':V→List V→Hp→VK→Prop} (h:MtR X id r) (h':MtR X id r'):MtR X id (fun x xs H Q=>r x xs H Q∨r' x xs H Q):=by
  intro pins s σ H x xs v us Q I rx rs q
  rcases q with q | q
  · exact h pins s σ H x xs v us Q I rx rs q
  · exact h' pins s σ H x xs v us Q I rx rs q
theorem pe_ix {r:R2} (hr:IxR X r) (ha:PE X a ta) (hb:PE X b tb) (hs:PlainIx b):PE X (.Subscript a b pos) (tOp r ta tb):=by
  intro pins s σ H Q I h
  exact Subscript_ (binT ha hb I h fun v u s2 x y H2 I2 rx ry q=>hr a b pins s2 σ H2 x y v u Q I2 rx ry q (hs _ _))
def rIxL (K:PySem.W.Frag):R2:=fun x y H Q=>∃ p xs i v,x = .ref p∧y = .int i∧SqL K H p xs∧atI xs i=some v∧Q v H
def rIxT (K:PySem.W.Frag):R2:=fun x y H Q=>∃ p xs i v,x = .ref p∧y = .int i∧SqT K H p xs∧atI xs i=some v∧Q v H
theorem ix_list:IxR X (rIxL X.K):=by
  intro value slice pins s σ H x y v u Q I rx ry h hs
  obtain ⟨p,xs,i,z,rfl,rfl,hq,he,q⟩:=h
  cases rx
  obtain ⟨t,rfl⟩:=ry
  obtain ⟨its,r,pl,hz⟩:=I.list hq
  obtain ⟨j,h1,h2,h3,h4,h5⟩:=atI_get he
  obtain ⟨w,ew,rw'⟩:=r.get h2
  have hl:=r.length
  have hn:=line63
  have fin:EP X pins σ Q w s:=⟨z,H,I,rw',q⟩
  by_cases h0:0≤i
  · have hj:i.toNat=j:=by
      rw [seqIndex_of h0 h5] at h1
      exact Option.some.inj h1
    exact item_listR pl.isList h0 (by omega) (by rw [hj];simpa using ew) fin hs
  · have hj:(i+(its.toArray.size:Int)).toNat=j:=by
      rw [seqIndex_neg (by omega) h4] at h1
      rw [List.size_toArray,← hl]
      exact Option.some.inj h1
    exact subscriptTail_builtinR (x:=w) pl.isList.typeIs slot_list_getitem.lookup
      (wpAny_getItem_list_neg (Q:=fun r s'=>r=w∧EP X pins σ Q r s') pl.isList (by omega) (by rw [List.size_toArray]<;>omega) (by omega) (by rw [hj];simpa using ew) ⟨rfl,fin⟩) hs
theorem ix_tup:IxR X (rIxT X.K):=by
  intro value slice pins s σ H x y v u Q I rx ry h hs
  obtain ⟨p,xs,i,z,rfl,rfl,hq,he,q⟩:=h
  cases rx
  obtain ⟨t,rfl⟩:=ry
  obtain ⟨its,r,pl,hz⟩:=I.tuple hq
  obtain ⟨j,h1,h2,h3,h4,h5⟩:=atI_get he
  obtain ⟨w,ew,rw'⟩:=r.get h2
  have hl:=r.length
  have hn:=line63
  have fin:EP X pins σ Q w s:=⟨z,H,I,rw',q⟩
  exact subscriptTail_builtinR (x:=w) pl.typeIs slot_tuple_getitem.lookup
    (getItem_tuple (j:=j) (Q:=fun r s'=>r=w∧EP X pins σ Q r s') pl (by omega) (by omega) (by rw [List.size_toArray,← hl];exact h1) (by simpa using ew) ⟨rfl,fin⟩) hs
theorem mapSeq_set (its:List Value) (n j:Nat) (u:Value):Obj.mapSeq (·.setIfInBounds j u) { cls:=.type "list", data:=.seq its.toArray n }={ cls:=.type "list", data:=.seq (its.set j u).toArray n }:=by
  simp [Obj.mapSeq]
theorem Inv.lst {pins:List (Addr × Obj)} {σ:St} {H:Hp} {s:Shared} {p:Addr} {xs:List V} (I:Inv X pins σ H s) (h:H p=some (.lst xs)) :
    ∃ (its:List Value) (n:Nat),Vals xs its∧s.heap.get? p=some { cls:=.type "list", data:=.seq its.toArray n }∧xs.length≤sizeLine:=by
  obtain ⟨z,its,n,r,e⟩:=I.hok p _ h
  exact ⟨its,n,r,e,z⟩
theorem Inv.lstUpd {pins:List (Addr × Obj)} {σ:St} {H:Hp} {s:Shared} {p:Addr} {xs ys:List V} {its its':List Value} {n n':Nat} {f:Obj→Obj} (I:Inv X pins σ H s) (h:H p=some (.lst xs))
    (ho:s.heap.get? p=some { cls:=.type "list", data:=.seq its.toArray n }) (hf:f { cls:=.type "list", data:=.seq its.toArray n }={ cls:=.type "list", data:=.seq its'.toArray n' }) (r:Vals ys its') (hz:ys.length≤sizeLine) (t:Nat) :
    Inv X pins σ (upd H p (.lst ys)) { s with heap:=s.heap.update p f,toks:=t }:=by
  have e:(s.heap.update p f).get? p=some { cls:=.type "list", data:=.seq its'.toArray n' }:=by
    rw [Heap.get?_update_self f ho (by rw [hf]<;>rfl),hf]
  refine I.write (x:=p) (e:=p) (by rw [h];trivial) (.inl rfl) (fun b u hb q=>(Heap.get?_update_other _ _ (Ne.symm hb)).trans q) ⟨_,e⟩ ?_
  exact ⟨hz,its',n',r,e⟩
def rSetL:V→V→V→Hp→(Hp→Prop)→Prop:=fun o i v H Q=>∃ p xs k j,o = .ref p∧i = .int k∧H p=some (.lst xs)∧ixN xs.length k=some j∧Q (upd H p (.lst (xs.set j v)))
theorem set_list:PSet X rSetL:=by
  intro pins s σ H o i v ov iv u Q I ro ri rv h
  obtain ⟨p,xs,k,j,rfl,rfl,hp,hj,q⟩:=h
  cases ro
  obtain ⟨t,rfl⟩:=ri
  obtain ⟨its,n,r,ho,hz⟩:=I.lst hp
  obtain ⟨h1,h2,h3,h4⟩:=ixN_seq hj
  have hl:=r.length
  have hn:=line63
  have I':Inv X pins σ (upd H p (.lst (xs.set j v))) { s with heap:=s.heap.update p (Obj.mapSeq (·.setIfInBounds j u)) } :=
    I.lstUpd hp ho (mapSeq_set its n j u) (r.set rv j) (by rw [List.length_set];exact hz) s.toks
  by_cases h0:0≤k
  · have hk:k.toNat=j:=by
      rw [seqIndex_of h0 h4] at h1
      exact Option.some.inj h1
    exact PySem.W.ki_setAt ho h0 (by omega) (by rw [List.size_toArray,← hl];exact h4) (by rw [hk];exact ⟨_,I',q⟩)
  · have hk:(k+(its.toArray.size:Int)).toNat=j:=by
      rw [seqIndex_neg (by omega) h3] at h1
      rw [List.size_toArray,← hl]
      exact Option.some.inj h1
    exact PySem.W.ki_setBack ho (by omega) (by rw [List.size_toArray,← hl];exact h3) (by omega) (by rw [hk];exact ⟨_,I',q⟩)
theorem slice_bounds (lo hi:Option Int) (n:Nat):(sliceBounds lo hi none n).1=((HT.sIx n 0 lo:Nat):Int)∧(sliceBounds lo hi none n).2.1=((HT.sIx n n hi:Nat):Int)∧(sliceBounds lo hi none n).2.2=1:=by
  refine ⟨?_,?_,rfl⟩
  · cases lo with
    | none=>simp [sliceBounds,HT.sIx]
    | some i =>
      simp only [sliceBounds,HT.sIx,Option.getD_none,show (1:Int) > 0 by decide,if_true]
      by_cases h:i<0
      · simp only [h,if_true]<;>omega
      · simp only [h,if_false]<;>omega
  · cases hi with
    | none=>simp [sliceBounds,HT.sIx]
    | some i =>
      simp only [sliceBounds,HT.sIx,Option.getD_none,show (1:Int) > 0 by decide,if_true]
      by_cases h:i<0
      · simp only [h,if_true]<;>omega
      · simp only [h,if_false]<;>omega
theorem slicePick_cut (its:List Value) (lo hi:Option Int):slicePick its.toArray lo hi none=((its.drop (HT.sIx its.length 0 lo)).take (HT.sIx its.length its.length hi-HT.sIx its.length 0 lo)).toArray:=by
  obtain ⟨h1,h2,h3⟩:=slice_bounds lo hi its.toArray.size
  unfold slicePick
  rw [h1,h2,h3]
  simp only [sliceRange_one,pick_run,List.size_toArray]<;>rfl
def rSlL (K:PySem.W.Frag):V→Option Int→Option Int→Hp→VK→Prop:=fun x lo hi H Q=>∃ a xs,x = .ref a∧SqL K H a xs∧∀ p,H p=none→Q (.ref p) (upd H p (.lst (cutV xs lo hi)))
theorem sl_list:SlR X (rSlL X.K):=by
  intro pins s σ H x v vl vu lo hi sl Q I rx hs pl pu h
  obtain ⟨a,xs,rfl,hx,q⟩:=h
  cases rx
  obtain ⟨its,r,ht,hz⟩:=I.list hx
  have hlen:=r.length
  refine ⟨"list", _,slot_list_getitem.lookup,ht.isList.typeIs,?_⟩
  refine wpAny_getItem_list_slice ht.isList hs pl pu .none (by simp) ?_ (by rw [List.size_toArray]<;>omega)
  rw [slicePick_cut,← hlen]
  refine ⟨.ref s.heap.objs.size,_,I.laid (t':=s.toks) (o:=.lst (cutV xs lo hi)) (fun b ob q=>Heap.get?_push_of_some _ q) (Nat.le_refl _) ?_,rfl,q _ (I.hok.fresh (Nat.le_refl _))⟩
  exact ⟨Nat.le_trans (cutV_length xs lo hi) hz,_,0,(r.drop (HT.sIx xs.length 0 lo)).take (HT.sIx xs.length xs.length hi-HT.sIx xs.length 0 lo),Heap.get?_push_size _ rfl⟩
theorem call_len_seq:CallR X (.builtin "len") (fun xs H Q=>∃ p ys,xs=[.ref p]∧(SqL X.K H p ys∨SqT X.K H p ys)∧Q (.int ys.length) H):=by
  intro pins s σ H xs us Q I r h
  obtain ⟨p,ys,rfl,hq,q⟩:=h
  obtain ⟨u,rfl,rx⟩:=vals1 r
  cases rx
  have hn:=line63
  rcases hq with hq | hq
  · obtain ⟨its,r',pl,hz⟩:=I.list hq
    have hlen:=r'.length
    exact Calls.call_len_list pl.isList (by simp only [List.size_toArray]<;>omega) ⟨.int ys.length,H,I.tok _,⟨s.toks+1,by rw [List.size_toArray,hlen]⟩,q⟩
  · obtain ⟨its,r',pl,hz⟩:=I.tuple hq
    have hlen:=r'.length
    exact len_tuple pl (by simp only [List.size_toArray]<;>omega) ⟨.int ys.length,H,I.tok _,⟨s.toks+1,by rw [List.size_toArray,hlen]⟩,q⟩
theorem CallR.or {f:Value} {r r':List V→Hp→VK→Prop} (h:CallR X f r) (h':CallR X f r'):CallR X f (fun xs H Q=>r xs H Q∨r' xs H Q):=by
  intro pins s σ H xs us Q I rs q
  rcases q with q | q
  · exact h pins s σ H xs us Q I rs q
  · exact h' pins s σ H xs us Q I rs q
theorem call_list_of:CallR X (.type "list") (fun xs H Q=>∃ p ys,xs=[.ref p]∧(SqL X.K H p ys∨SqT X.K H p ys)∧∀ l,H l=none→Q (.ref l) (upd H l (.lst ys))):=by
  intro pins s σ H xs us Q I r h
  obtain ⟨p,ys,rfl,hq,q⟩:=h
  obtain ⟨u,rfl,rx⟩:=vals1 r
  cases rx
  have fin:∀ (its:List Value),Vals ys its→ys.length≤sizeLine→∀ (h':Heap) (c':Nat),(∀ b o',s.heap.get? b=some o'→h'.get? b=some o') →
      h'.get? s.heap.objs.size=some { cls:=.type "list", dict:=none,data:=.seq its.toArray c',slots:=#[] }→EP X pins σ Q (.ref s.heap.objs.size) { s with heap:=h' }:=fun its r' hz h' c' kp e =>
    ⟨.ref s.heap.objs.size,_,I.laid (t':=s.toks) kp (Nat.le_refl _) (show ObjOk X.prog X.w _ h' _ (.lst ys) from ⟨hz,its,c',r',e⟩),rfl,q _ (I.hok.fresh (Nat.le_refl _))⟩
  rcases hq with hq | hq
  · obtain ⟨its,r',pl,hz⟩:=I.list hq
    have hlen:=r'.length
    obtain ⟨o,ho,hc,n,hd⟩:=pl.isList
    exact call_list_seq p (.inl rfl) ho hc hd (fun h' c' kp e=>fin its r' hz h' c' kp e) (by simp only [List.size_toArray]<;>omega)
  · obtain ⟨its,r',pl,hz⟩:=I.tuple hq
    have hlen:=r'.length
    obtain ⟨o,ho,hc,n,hd⟩:=pl
    exact call_list_seq p (.inr rfl) ho hc hd (fun h' c' kp e=>fin its r' hz h' c' kp e) (by simp only [List.size_toArray]<;>omega)
theorem call_tuple_of:CallR X (.type "tuple") (fun xs H Q=>∃ p ys,xs=[.ref p]∧((SqL X.K H p ys∧∀ l,H l=none→Q (.ref l) (upd H l (.tup ys)))∨(SqT X.K H p ys∧Q (.ref p) H))):=by
  intro pins s σ H xs us Q I r h
  obtain ⟨p,ys,rfl,h⟩:=h
  obtain ⟨u,rfl,rx⟩:=vals1 r
  cases rx
  rcases h with ⟨hq,q⟩ | ⟨hq,q⟩
  · obtain ⟨its,r',pl,hz⟩:=I.list hq
    have hlen:=r'.length
    refine call_tuple_list pl.isList (fun h' kp=>?_) (by simp only [List.size_toArray]<;>omega)
    have I1:Inv X pins σ H { s with heap:=h' }:=I.kept (t':=s.toks) kp
    have I2:Inv X pins σ (upd H h'.objs.size (.tup ys)) { s with heap:=h'.push { cls:=.type "tuple", data:=.seq its.toArray } } :=
      I1.laid (t':=s.toks) (fun b o e=>Heap.get?_push_of_some _ e) (Nat.le_refl _) (show ObjOk X.prog X.w _ _ _ (.tup ys) from ⟨hz,its,r',IsTup.new _ _⟩)
    exact ⟨.ref h'.objs.size,_,I2,rfl,q _ (I1.hok.fresh (Nat.le_refl _))⟩
  · obtain ⟨its,r',pl,hz⟩:=I.tuple hq
    exact call_tuple_same pl ⟨.ref p,H,I,rfl,q⟩
def tyV (K:PySem.W.Frag) (T:String) (x:V) (H:Hp):Prop:=match x with
  | .str _=>T = "str"
  | .int _=>T = "int"
  | .ref p=>(T = "list" ∧ ∃ xs,SqL K H p xs)∨(T = "tuple" ∧ ∃ o,K.lookup p=some o∧o.cls = .type "tuple" ∧ o.dict=none) ∨
      (T = "dict" ∧ ((∃ kvs,H p=some (.dK kvs)) ∨ ∃ kvs,H p=some (.dT kvs)))∨(T = "set" ∧ ∃ S n,H p=some (.set S n))
  | _=>False
theorem tyV_is {pins:List (Addr × Obj)} {σ:St} {H:Hp} {s:Shared} {T:String} {x:V} {v:Value} (I:Inv X pins σ H s) (r:RelV x v) (ty:tyV X.K T x H) :
    s.TypeIs v T∧∀ a,v = .ref a→∃ ob,s.heap.get? a=some ob∧ob.dict=none:=by
  cases x with
  | str z =>
    obtain ⟨t,rfl⟩:=r
    cases (show T = "str" from ty)
    exact ⟨typeIs_str s z t,fun _ e=>nomatch e⟩
  | int i =>
    obtain ⟨t,rfl⟩:=r
    cases (show T = "int" from ty)
    exact ⟨typeIs_int s i t,fun _ e=>nomatch e⟩
  | ref p =>
    cases r
    rcases ty with ⟨rfl,xs,hq⟩ | ⟨rfl,o,hk,hc,hd⟩ | ⟨rfl,hk⟩ | ⟨rfl,S,n,hk⟩
    · obtain ⟨its,_,pl,_⟩:=I.list hq
      refine ⟨pl.isList.typeIs,fun a e=>?_⟩
      cases e
      obtain ⟨o,n,e,c,hd,_⟩:=pl
      exact ⟨o,e,hd⟩
    · refine ⟨⟨o,I.kIn p o hk,hc⟩,fun a e=>?_⟩
      cases e
      exact ⟨o,I.kIn _ o hk,hd⟩
    · have z:∃ o,s.heap.get? p=some o∧o.ExactDict:=by
        rcases hk with ⟨kvs,hk⟩ | ⟨kvs,hk⟩
        · obtain ⟨_,_,_,_,o,_,_,e,ex,_⟩:=I.hok p _ hk
          exact ⟨o,e,ex⟩
        · obtain ⟨_,_,_,_,o,_,_,e,ex,_⟩:=I.hok p _ hk
          exact ⟨o,e,ex⟩
      obtain ⟨o,e,ex⟩:=z
      refine ⟨⟨o,e,ex.1⟩,fun a e2=>?_⟩
      cases e2
      exact ⟨o,e,ex.2.1⟩
    · obtain ⟨o,_,_,_,e,ex,_⟩:=I.hok p _ hk
      refine ⟨⟨o,e,ex.1⟩,fun a e2=>?_⟩
      cases e2
      exact ⟨o,e,ex.2.1⟩
  | _=>exact False.elim ty
def tBM (K:PySem.W.Frag) (T:String) (r:V→List V→Hp→VK→Prop) (to:TE) (t:TA):TE:=fun σ H Q=>to σ H fun x H1=>tyV K T x H1∧t σ H1 fun xs H2=>r x xs H2 Q
variable {o e:Expr} {es:List Expr} {to:TE} {t:TA} {name:Str} {apos cpos:Pos} {T id:String} {r:V→List V→Hp→VK→Prop}
theorem pe_bm (pa:PlainAttrs T) (slot:Slot T name id) (hty:typeOf (.builtin id)=pure (.type "method_descriptor")) (hm:MtR X id r) (ho:PE X o to) (ha:PA X (e::es) t)
    (hbase:attributeBase o name X.env (eval o X.env)=eval o X.env:=by rfl)
    (hfew:((backTo cpos (starEach (e::es) X.env)).all (fun x=>!x.1)&&(backToKw cpos (keywordEach [] X.env)).all (fun x=>x.1.isSome)
      && decide ((e::es).length+([]:List Keyword).length+(if ([]:List Keyword).isEmpty then 0 else 1)<30))=true:=by rfl)
    (hline:(apos.endLine==cpos.line)=true:=by rfl) (hs:starEach (e::es) X.env=(false,eval e X.env)::starEach es X.env:=by rfl) (hplain:(backTo cpos (starEach es X.env)).any (·.1)=false:=by rfl) :
    PE X (.Call (.Attribute o name apos) (e::es) [] cpos) (tBM X.K T r to t):=by
  intro pins s σ H Q I h
  refine wpAny_Call_method_late hbase hfew hline rfl (thn (ho pins s σ H _ I h) fun v s1 ⟨x,H1,I1,r1,ty,q1⟩=>?_)
  obtain ⟨h1,h2⟩:=tyV_is I1 r1 ty
  refine ⟨T,id,pa,slot,hty,h1,h2,?_⟩
  have hA:=ha cpos pins s1 σ H1 _ I1 q1
  rw [hs] at hA ⊢
  refine Calls.callWith_builtin (by show (false || (backTo cpos (starEach es X.env)).any (·.1))=false;rw [hplain]<;>rfl) (Calls.evalArgs_plain ?_)
  exact thn hA fun us s2 ⟨vs,H2,I2,r2,q2⟩=>hm pins s2 σ H2 x vs v us Q I2 r1 r2 q2
end
end L2
namespace L2
open PySem PySem.Spec PyProof.Rows
def MtM (X:Cx) (id:String) (r:V→List V→Hp→VK→Prop):Prop :=
  ∀ (pins:List (Addr × Obj)) (s:Shared) (σ:St) (H:Hp) (x:V) (xs:List V) (v:Value) (us:List Value) (Q:VK),Inv X pins σ H s→RelV x v→Vals xs us→r x xs H Q →
    wpAny (model X.prog X.w) X.A (call (.builtin id) (v::us)) (EP X pins σ Q) X.xe s
theorem Vals.one:∀ {x:V} {us:List Value},Vals [x] us→∃ u,us=[u]∧RelV x u
  | _,_,.cons r .nil=>⟨_,rfl,r⟩
theorem Vals.two:∀ {x y:V} {us:List Value},Vals [x,y] us→∃ u v,us=[u,v]∧RelV x u∧RelV y v
  | _,_,_,.cons r (.cons q .nil)=>⟨_,_,rfl,r,q⟩
theorem Vals.zero:∀ {us:List Value},Vals [] us→us=[]
  | _,.nil=>rfl
theorem Vals.reverse {xs:List V} {us:List Value} (h:Vals xs us):Vals xs.reverse us.reverse:=by
  induction h with
  | nil=>exact .nil
  | cons r t ih=>rw [List.reverse_cons,List.reverse_cons];exact Vals.append ih (.cons r .nil)
theorem Vals.rep {xs:List V} {us:List Value} (h:Vals xs us):∀ k:Nat,Vals (List.replicate k xs).flatten (List.replicate k us).flatten
  | 0=>.nil
  | k+1=>by
    rw [List.replicate_succ,List.replicate_succ,List.flatten_cons,List.flatten_cons]
    exact Vals.append h (Vals.rep h k)
theorem foldl_rep (its:List Value):∀ (k:Nat) (acc:List Value),
    List.foldl (fun x1 x2=>x1++x2) acc.toArray (List.replicate k its.toArray)=(acc++(List.replicate k its).flatten).toArray
  | 0,acc=>by simp
  | k+1,acc=>by
    have e:acc.toArray++its.toArray=(acc++its).toArray:=by simp
    have e2:(acc++its)++(List.replicate k its).flatten=acc++(List.replicate (k+1) its).flatten:=by
      rw [List.replicate_succ,List.flatten_cons,List.append_assoc]
    rw [← e2,← foldl_rep its k (acc++its),← e,List.replicate_succ,List.foldl_cons]
section
variable {X:Cx} {pins:List (Addr × Obj)} {σ:St} {H:Hp} {s:Shared} {l b:Addr} {xs ys zs:List V}
theorem Inv.lset {its its':List Value} {n:Nat} {f:Array Value→Array Value} {t':Nat} (I:Inv X pins σ H s) (hH:H l=some (.lst xs))
    (e:s.heap.get? l=some { cls:=.type "list", data:=.seq its.toArray n }) (hf:f its.toArray=its'.toArray) (hv:Vals ys its') (hz:ys.length≤sizeLine) :
    Inv X pins σ (upd H l (.lst ys)) { s with heap:=s.heap.update l (Obj.mapSeq f),toks:=t' }:=by
  have q:=PySem.IsL.update e f
  rw [hf] at q
  refine I.write (x:=l) (e:=l) (by rw [hH];exact trivial) (.inl rfl) (fun b' u hb hu=>(Heap.get?_update_other s.heap (Obj.mapSeq f) (Ne.symm hb)).trans hu) ⟨_,q⟩ ?_
  exact ⟨hz,its',_,hv,q⟩
theorem Inv.lnew {its:List Value} {t':Nat} (I:Inv X pins σ H s) (hv:Vals ys its) (hz:ys.length≤sizeLine) :
    Inv X pins σ (upd H s.heap.objs.size (.lst ys)) { s with heap:=s.heap.push { cls:=.type "list", data:=.seq its.toArray },toks:=t' } :=
  I.laid (fun _ _ q=>Heap.get?_push_of_some _ q) (Nat.le_refl _) ⟨hz,its,0,hv,Heap.get?_push_size _ rfl⟩
theorem Inv.fresh (I:Inv X pins σ H s):H s.heap.objs.size=none:=I.hok.fresh (Nat.le_refl _)
theorem Inv.lstM (I:Inv X pins σ H s) (hH:H l=some (.lst xs)):xs.length≤sizeLine∧∃ (its:List Value) (n:Nat),Vals xs its∧xs.length=its.length∧s.heap.get? l=some { cls:=.type "list", data:=.seq its.toArray n }:=by
  obtain ⟨z,its,n,r,e⟩:=I.hok l _ hH
  exact ⟨z,its,n,r,r.length,e⟩
theorem notLongL {n:Nat} (h:n≤sizeLine):Builtin.List.listTooLong n=false:=by
  unfold Builtin.List.listTooLong
  exact decide_eq_false (by omega)
end
section
variable {X:Cx}
def rAppend:V→List V→Hp→VK→Prop:=fun x vs H Q=>∃ l xs y,x = .ref l∧vs=[y]∧H l=some (.lst xs)∧xs.length<sizeLine∧Q .non (upd H l (.lst (xs++[y])))
theorem mt_append:MtM X "list.append" rAppend:=by
  intro pins s σ H x vs v us Q I rx rv h
  obtain ⟨l,xs,y,rfl,rfl,hH,hz,q⟩:=h
  cases rx
  obtain ⟨u,rfl,ru⟩:=rv.one
  obtain ⟨z,its,n,r,hl,e⟩:=I.lstM hH
  refine call_meets F.slot_list_append ⟨_,e,rfl⟩ F.entry_list_append (F.args_list_append_2 _ _) (PySem.list_append l its.toArray n u (by rw [List.size_toArray];omega)) ⟨e,?_⟩
  refine ⟨.non,_,I.lset (its':=its++[u]) hH e (by simp) (r.append (.cons ru .nil)) ?_,rfl,q⟩
  rw [List.length_append,List.length_singleton]
  omega
def rCat:R2:=fun x y H Q=>∃ l b xs zs,x = .ref l∧y = .ref b∧H l=some (.lst xs)∧H b=some (.lst zs)∧xs.length+zs.length≤sizeLine∧∀ p,H p=none→Q (.ref p) (upd H p (.lst (xs++zs)))
theorem op_cat:OpR X (binaryOp .Add) rCat:=by
  intro pins s σ H x y v u Q I rx ry h
  obtain ⟨l,b,xs,zs,rfl,rfl,hH,hB,hz,q⟩:=h
  cases rx
  cases ry
  obtain ⟨z,its,n,r,hl,e⟩:=I.lstM hH
  obtain ⟨z2,its2,n2,r2,hl2,e2⟩:=I.lstM hB
  refine PySem.P.add_list e e2 ?_ (by rw [List.size_toArray,List.size_toArray];omega)
  have ea:its.toArray++its2.toArray=(its++its2).toArray:=by simp
  rw [ea]
  exact ⟨.ref _,_,I.lnew (t':=s.toks) (r.append r2) (by rw [List.length_append];omega),rfl,q _ I.fresh⟩
def rRep:R2:=fun x y H Q=>∃ l k xs,x = .ref l∧y = .int k∧H l=some (.lst xs)∧-(2 ^ 63)≤k∧k<2 ^ 63∧xs.length*k.toNat≤sizeLine ∧
  ∀ p,H p=none→Q (.ref p) (upd H p (.lst (List.replicate k.toNat xs).flatten))
theorem len_rep {α:Type} (xs:List α) (k:Nat):(List.replicate k xs).flatten.length=k*xs.length:=by
  induction k with
  | zero=>simp
  | succ k ih=>rw [List.replicate_succ,List.flatten_cons,List.length_append,ih,Nat.succ_mul,Nat.add_comm]
theorem op_rep:OpR X (binaryOp .Mult) rRep:=by
  intro pins s σ H x y v u Q I rx ry h
  obtain ⟨l,k,xs,rfl,rfl,hH,h1,h2,hz,q⟩:=h
  cases rx
  obtain ⟨t,rfl⟩:=ry
  obtain ⟨z,its,n,r,hl,e⟩:=I.lstM hH
  have hlen:its.toArray.size*k.toNat≤sizeLine:=by rw [List.size_toArray,← hl];exact hz
  have hcap:¬ its.toArray.size*k.toNat > (2 ^ 63-1) / 8:=by
    have:(sizeLine:Nat)≤(2 ^ 63-1) / 8:=by decide
    omega
  have hfit:¬ (!Builtin.List.listFitsIndex k)=true:=by
    rw [fitsIndex_both h1 h2]
    exact Bool.false_ne_true
  have hlong:¬ Builtin.List.listTooLong (its.toArray.size*k.toNat)=true:=by
    rw [notLongL hlen]
    exact Bool.false_ne_true
  have hnew:List.foldl (fun x1 x2=>x1++x2) #[] (List.replicate (if its.toArray.isEmpty=true then 0 else k.toNat) its.toArray)=(List.replicate k.toNat its).flatten.toArray:=by
    have f0:∀ m:Nat,List.foldl (fun x1 x2=>x1++x2) #[] (List.replicate m its.toArray)=(List.replicate m its).flatten.toArray:=fun m=>by
      have:=foldl_rep its m []
      rw [List.nil_append] at this
      exact this
    rw [f0]
    cases its with
    | nil=>simp
    | cons a r'=>rw [if_neg (by simp)]
  refine wpAny_binaryOp_repeat_ref (T := "list") (U := "int") (by decide) ⟨_,e,rfl⟩ (fun s'=>typeIs_int s' k t) noFill_list_mul F.fills_int_mul F.slot_int_rmul repeat_list F.slot_int_index.lookup
    (call_meets F.slot_int_rmul (typeIs_int s k t) F.entry_int_rmul (F.args_int_rmul_2 _ _) (int___rmul___int_list k t l its.toArray n)
      ⟨e,rfl,⟨_,e,rfl⟩,call_meets F.slot_list_mul ⟨_,e,rfl⟩ F.entry_list_mul (F.args_list_mul_2 _ _) (AutoListH.list___mul___list_int_3 l its.toArray n k t hfit hcap hlong) ⟨e,?_⟩⟩)
  rw [hnew]
  exact ⟨.ref _,_,I.lnew (t':=s.toks) (r.rep k.toNat) (by rw [len_rep,Nat.mul_comm];exact hz),rfl,q _ I.fresh⟩
end
section
variable {prog:Program} {w:World} {A:Around} {E:Value→Shared→Prop} {s:Shared}
theorem bounds_run {a c n:Nat} (hac:a≤c) (hc:c≤n):sliceBounds (some (a:Int)) (some (c:Int)) none n=((a:Int),(c:Int),1):=by
  simp only [sliceBounds,Option.getD_none]
  have h1:¬ ((a:Int)<0):=by omega
  have h2:¬ ((c:Int)<0):=by omega
  simp only [h1,h2,if_false,show (1:Int) > 0 by decide,if_true]
  congr 1
  · omega
  · congr 1;omega
set_option maxRecDepth 100000 in
theorem setItem_slice {l b sl:Addr} {items new:Array Value} {n n2:Nat} {vl vu:Value} {a c:Nat} {Q:Unit→Shared→Prop}
    (e:s.heap.get? l=some { cls:=.type "list", data:=.seq items n }) (e2:s.heap.get? b=some { cls:=.type "list", data:=.seq new n2 }) (hne:l≠b)
    (hs:s.heap.IsSliceOf sl vl vu .none) (pl:IsPart vl (some (a:Int))) (pu:IsPart vu (some (c:Int))) (hac:a≤c) (hc:c≤items.size)
    (hsz:items.size+new.size≤sizeLine) (h:Q () { s with heap:=s.heap.update l (Obj.mapSeq fun xs=>xs.extract 0 a++new++xs.extract c xs.size) }) :
    wpAny (model prog w) A (setItem (.ref l) (.ref sl) (.ref b)) Q E s:=by
  have hl:s.heap.IsList l items:=PySem.IsL.isList e
  have hb:s.heap.IsList b new:=PySem.IsL.isList e2
  obtain ⟨os,hos,hcs,hds⟩:=id hs
  have hTs:s.TypeIs (.ref sl) "slice" := ⟨os,hos,hcs⟩
  have hstep:¬ ((rawPart none==rawInt 0)=true):=Bool.false_ne_true
  have hsame:Builtin.List.listSameRef (.ref l) (.ref b)=false:=by
    unfold Builtin.List.listSameRef
    exact beq_eq_false_iff_ne.mpr hne
  have hmax:(max (a:Int) (c:Int)).toNat=c:=by omega
  have hz':((fun xs:Array Value=>xs.extract 0 a++new++xs.extract c xs.size) items).size≤sizeLine+1:=by
    simp only [Array.size_append,Array.size_extract]
    omega
  unfold setItem
  try with_reducible refine wpAny_holding ?_
  first | refine wpAny_bind (wpAny_pure ?_) | skip
  refine wpAny_bind (wpAny_sequenceKey hl.typeIs (by decide) ?_)
  refine wpAny_bind (wpAny_callSpecial?_slot (name:=Str.ofString "__setitem__") hl.typeIs slot_list_setitem
    (wpAny_call_entry slot_list_setitem hl.typeIs entry_list_setitem ?_ (args_list_setitem _ _ _)))
  show wpAny _ _ (Builtin.List.listSubscript? (.ref sl) >>= _) _ _ s
  refine wpAny_bind ?_
  unfold Builtin.List.listSubscript?
  refine wpAny_bind (wpAny_specialOf hTs slice_no_index ?_)
  simp only [Option.isNone_none,if_true]
  refine wpAny_pure ?_
  show wpAny _ _ (typeOf (.ref sl) >>= _) _ _ s
  refine wpAny_bind (wpAny_typeOf hTs ?_)
  first
    | rw [if_neg (by decide)]
    | refine PySem.W.KFB.if_not (by decide) ?_
  rw [listSliceParts_eq]
  refine wpAny_bind (wpAny_bind (wpAny_field hos hds (x:=.none) rfl (wpAny_bind (wpAny_listPart .none ?_))))
  rw [if_neg hstep]
  refine wpAny_bind (wpAny_field hos hds (x:=vl) rfl (wpAny_bind (wpAny_listPart pl ?_)))
  refine wpAny_bind (wpAny_field hos hds (x:=vu) rfl (wpAny_bind (wpAny_listPart pu (wpAny_pure ?_))))
  first
    | simp only [hsame,Bool.false_eq_true,if_false]
    | refine PySem.W.KFB.if_not hsame ?_
    | (dsimp only
       rw [if_neg (by rw [hsame];exact Bool.false_ne_true)])
  refine wpAny_bind (m:=Builtin.List.listAllItems (.ref b) "must assign iterable to extended slice") ?_
  unfold Builtin.List.listAllItems
  refine wpAny_bind (wpAny_typeOf hb.typeIs ?_)
  first
    | refine PySem.W.KFB.if_so (by decide) ?_
    | rw [if_pos (by decide)]
    | simp only [beq_self_eq_true,Bool.true_or,if_true]
  unfold Builtin.List.listItems
  refine wpAny_bind (wpAny_seqItems e2 rfl (wpAny_pure ?_))
  refine wpAny_bind (wpAny_bind (wpAny_seqItems e rfl (wpAny_pure ?_)))
  refine wpAny_bind (wpAny_of_eq ((sliceIndices_raw (some (a:Int)) (some (c:Int)) none items.size (by simp)).trans (congrArg (pure:Int × Int × Int→Sem (Int × Int × Int)) (bounds_run hac hc))) ?_)
  show wpAny _ _ (if ((1:Int)==1)=true then _ else _) _ _ s
  rw [if_pos (by decide)]
  refine wpAny_bind (wpAny_rule ?_)
  first
    | simp only [notLongL hsz,Bool.false_eq_true,if_false]
    | refine PySem.W.KFB.if_not (notLongL hsz) ?_
  first | refine wpAny_bind (wpAny_pure ?_) | skip
  show wpAny _ _ (updateSeq l (fun xs=>xs.extract 0 ((a:Int)).toNat++new++xs.extract (max (a:Int) (c:Int)).toNat xs.size) >>= _) _ _ s
  rw [hmax,Int.toNat_natCast]
  refine wpAny_bind (wpAny_updateSeq (hz:=Nat.le_trans (Nat.le_add_right _ _) hsz) (_hz':=hz') e rfl ?_)
  refine wpAny_bind (wpAny_letGo ?_)
  first
    | exact wpAny_bind (wpAny_pure (wpAny_pure ⟨.none,rfl,wpAny_pure h⟩))
    | exact wpAny_pure ⟨.none,rfl,wpAny_pure h⟩
end
section
variable {X:Cx}
end
end L2
namespace Att
open PySem PySem.W PySem.Calls PyProof.Rows
theorem ints_of_wellAll {P:Params} {h:Heap}:∀ (ns:List Int) (vs:List Value),WellAll P h vs (ns.map WData.int)→IntsAre vs ns:=by
  intro ns
  induction ns with
  | nil =>
    intro vs w
    rw [List.map_nil] at w
    cases w
    exact .nil
  | cons n ns ih =>
    intro vs w
    rw [List.map_cons] at w
    cases w with
    | cons a b =>
      cases a
      exact .cons _ _ (ih _ b)
theorem script_of {l:OpenLaw} {n:Nat} (hn:l.most=some n) {P:Params} {h:Heap} {args:List WData} {vals:List Value}
    (hpre:l.row.toRowW.claim.pre args=true) (hwl:WellAll P h vals args) :
    ∃ a vs ns,vals=[Value.ref a]∧args=[WData.list (ns.map WData.int)]∧h.get? a=some { cls:=.type "list", data:=.seq vs.toArray }∧IntsAre vs ns∧ns.length≤n:=by
  have hsh:WShape.hasAll [] args [.list .int]=true:=(pre_splitW hpre).1
  have hc:l.pre.holds [] { args:=args }=true:=(pre_splitW hpre).2
  obtain ⟨d,r,rfl,h1,h2⟩:=hasAllW_cons hsh
  obtain rfl:=hasAllW_nil h2
  obtain ⟨xs,rfl,h3⟩:=hasW_list h1
  obtain ⟨ns,rfl⟩:=items_int h3
  have hlen:ns.length≤n:=by
    unfold OpenLaw.pre at hc
    have h4:(WTm.not (.lt (.lit (.int (n:Int))) (.len (.arg 0)))).holds [] { args:=[.list (ns.map .int)] }=true:=by
      have h4:=(holds_andW hc).1
      rw [hn] at h4
      exact h4
    have h5:=condW_of h4 (w_not (w_lt w_lit (w_len_list (w_arg rfl))))
    rw [List.length_map] at h5
    refine Nat.le_of_not_lt fun q=>?_
    have q':(n:Int)<((ns.length:Nat):Int):=by omega
    first
      | (rw [decide_eq_true q'] at h5;exact absurd h5 (by decide))
      | (simp at h5;omega)
  cases hwl with
  | cons w1 w2 =>
    cases w2
    cases w1 with
    | list ho hall=>exact ⟨_,_,ns,rfl,rfl,ho,ints_of_wellAll ns _ hall,hlen⟩
theorem post_true (l:OpenLaw) (args:List WData):l.row.toRowW.claim.post args (.bool true) args=true :=
  postW_of (r:=l.row.toRowW) (X:=(true==true))
    (show WShape.has [] (.bool true) .bool=true by first | rfl | decide | simp [WShape.has,WShape.arms,WShape.armsAll])
    (show (WTm.eq .res (.lit (.bool true))).value [] { args:=args,res:=some (.bool true),after:=args }=some (.bool (true==true)) from w_eq_bool (w_res rfl) w_lit) rfl
theorem attach_call {l:OpenLaw} {n:Nat} {q:Program} {loose:List Str} {XP:(Str→Option Value)→Heap→Prop} {YP:World→Heap→Prop} {d:DefRec}
    (hn:l.most=some n) (hdf:d.params.defaults=[])
    (call:∀ (w:World) (s₀ s₁:Shared) (mg mb:Str→Option Value) (fa:Addr) (o:Obj) (pm cd doc:Value) (a:Addr) (vs:List Value) (ns:List Int),
      Ground q loose [] XP w s₀ mg mb s₁.heap→YP w s₁.heap →
      s₁.heap.get? fa=some o→o.data = .func (docDef d.name d.params d.body d.scope pm cd doc)→s₁.heap.CodeRec cd d.name→mg d.name=some (.ref fa) →
      s₁.heap.get? a=some { cls:=.type "list", data:=.seq vs.toArray }→IntsAre vs ns→ns.length≤n→s₁.gens = #[] →
      codeAny (model l.prog w) callerA (.call (.ref fa) ⟨[.ref a],[]⟩) (fun r s'=>r = .ok (.ret (.bool true))∧OldK s₁.heap s'.heap∧s'.os=s₁.os∧AllBare s'.gens) s₁) :
    WalkO q loose XP YP l.row.toRowW d [] (fun f vs=>PySem.call f vs):=by
  intro w s₀ s₁ mg mb G Y fa o pm cd doc dV kV ho hd hcd hD hmg hg args vals as hpre hlay hrd hwl hlo
  obtain rfl:dV = .none:=Dflts.none hD hdf
  obtain rfl:kV = .none:=Dflts.noKw hD
  obtain ⟨a,vs,ns,rfl,rfl,hobj,hints,hlen⟩:=script_of hn hpre hwl
  refine enter_call (codeAny_mono (call w s₀ s₁ mg mb fa o pm cd doc a vs ns G Y ho (fd_plain hd) hcd hmg hobj hints hlen hg) fun r s' hq=>?_)
  obtain ⟨rfl,h2,h3,h4⟩:=hq
  exact ⟨.inl ⟨.bool true,.bool true,[],rfl,fun _=>rfl,.bool true,post_true l _,fun _=>⟨List.Pairwise.nil,fun _ hm=>(nomatch hm)⟩⟩,h2,h3,h4⟩
section
variable {prog:Program} {w:World} {A:Around} {E:Value→Shared→Prop} {s:Shared} {K:Frag}
end
end Att
namespace L2
open PySem PySem.Spec PyProof.Rows
theorem vals_ints:∀ {vs:List Value} {ns:List Int},IntsAre vs ns→Vals (ns.map V.int) vs
  | _,_,.nil=>.nil
  | _,_,.cons n t h=>.cons ⟨t,rfl⟩ (vals_ints h)
end L2
namespace L2
open PySem PySem.Spec PyProof.Rows
def defArgs (s:Stmt):Arguments:=match s with
  | .FunctionDef _ a _ _ _ _ _ _ _ _=>a
  | _=>{ posonlyargs:=[],args:=[],vararg:=none,kwonlyargs:=[],kw_defaults:=[],kwarg:=none,defaults:=[] }
def defBody (s:Stmt):List Stmt:=match s with
  | .FunctionDef _ _ b _ _ _ _ _ _ _=>b
  | _=>[]
def defScope (s:Stmt):Scope:=match s with
  | .FunctionDef _ _ _ _ _ _ sc _ _ _=>sc
  | _=>{ kind:=.function,names:=[],isGenerator:=false,isCoroutine:=false }
abbrev CX0:CXT:=fun _ _ _ _ _ _=>False
abbrev E0:XK:=fun _ _ _=>False
theorem pass0 {X:Cx}:Passes CX0 X E0:=fun _ _ _ _ _ _ _ h=>h.elim
structure Fun (K:PySem.W.Frag) (x qual:Str) (st:Stmt) (f:Addr) (fd:FuncData):Prop where
  ex:∃ (oc:Value) (od:Option Addr) (kV doc pm:Value) (an:Option Addr) (cdv ct:Value) (osl:Array (Option Value)),
    fd=PySem.W.fnOf x qual (defArgs st) (defBody st) (defScope st) .none kV doc pm an cdv ct∧K.lookup f=some ⟨oc,od,.func fd,osl⟩∧PySem.W.codeIn K cdv qual=true
  kp:PySem.W.keepIn K (.ref f)=true
section
variable {P:Program} {w:World} {K:PySem.W.Frag} {mg:Str→Option Value} {base:Heap}
theorem Fun.ok {x qual:Str} {st:Stmt} {f:Addr} {fd:FuncData} {N ps:List Str} {k:Nat} {sp:Sp} (F:Fun K x qual st f fd) (S:FnScope N ps (defScope st)) (len:∀ vs H Q E,sp vs H Q E→vs.length=ps.length)
    (hbody:∀ (cdv:Value) (A:Around) (outer:List Env) (s:Shared) (H:Hp) (vs:List V) (Q:VK) (E:XK),Room k (A.deeper (envOfC qual (defScope st) s.heap.objs.size f cdv))→sp vs H Q E →
      ∃ t,PSs (cxOf CX0 P w K mg base N qual (defScope st) f cdv A outer s H E).nox (defBody st) t∧t { nx:=fun _ H'=>Q .non H',rt:=Q } (start N vs) H):FnOk P w K mg base CX0 (k+1) f fd ps sp:=by
  obtain ⟨oc,od,kV,doc,pm,an,cdv,ct,osl,rfl,lk,hcd⟩:=F.ex
  refine fn_of lk hcd S len fun A outer s H vs Q E hr hsp=>?_
  obtain ⟨t,h,q⟩:=hbody cdv A outer s H vs Q E hr hsp
  exact ⟨t,h.nox,q⟩
theorem Fun.binds {x qual:Str} {st:Stmt} {f:Addr} {fd:FuncData} {ps:List Str} (F:Fun K x qual st f fd)
    (h:∀ (kV doc pm:Value) (an:Option Addr) (cdv ct:Value) (us:List Value),us.length=ps.length→bindArgs (PySem.W.fnOf x qual (defArgs st) (defBody st) (defScope st) .none kV doc pm an cdv ct) ⟨us,[]⟩=pure (ps.zip us)):Binds K fd ps []:=by
  obtain ⟨oc,od,kV,doc,pm,an,cdv,ct,osl,rfl,lk,hcd⟩:=F.ex
  exact .all (h kV doc pm an cdv ct)
theorem fun_mk {x qual:Str} {st:Stmt} {f:Addr} {oc:Value} {od an:Option Addr} {osl:Array (Option Value)} {kV doc pm cdv ct:Value} (l:K.lookup f=some ⟨oc,od,.func (PySem.W.fnOf x qual (defArgs st) (defBody st) (defScope st) .none kV doc pm an cdv ct),osl⟩)
    (c:PySem.W.codeIn K cdv qual=true) (k:PySem.W.keepIn K (.ref f)=true):Fun K x qual st f (PySem.W.fnOf x qual (defArgs st) (defBody st) (defScope st) .none kV doc pm an cdv ct):=⟨⟨oc,od,kV,doc,pm,an,cdv,ct,osl,rfl,l,c⟩,k⟩
end
theorem small1000 {n:Nat} (h:n≤1000):n<sizeLine:=Nat.lt_of_le_of_lt h (by decide)
section
variable {X:Cx}
end
theorem iteF {A B:Prop} (h:B):if false=true then A else B:=by
  rw [if_neg Bool.false_ne_true]
  exact h
theorem iteT {A B:Prop} (h:A):if true=true then A else B:=by
  rw [if_pos rfl]
  exact h
def Same (H H':Hp):Prop:=∀ b o,H b=some o→H' b=some o
theorem Same.refl (H:Hp):Same H H:=fun _ _ h=>h
theorem Same.trans {H H1 H2:Hp} (a:Same H H1) (b:Same H1 H2):Same H H2:=fun c o h=>b c o (a c o h)
theorem Same.free {H H':Hp} (e:Same H H') {l:Addr} (h:H' l=Option.none):H l=Option.none:=by
  cases q:H l with
  | none=>rfl
  | some o =>
    rw [e l o q] at h
    cases h
theorem Same.seq {K:PySem.W.Frag} {H H':Hp} {a:Addr} {xs:List V} (e:Same H H') (h:SqL K H a xs):SqL K H' a xs:=by
  rcases h with (h | ⟨o,h⟩) | h
  · exact .inl (.inl (e _ _ h))
  · exact .inl (.inr ⟨o,e _ _ h⟩)
  · exact .inr h
end L2
set_option linter.all false
namespace La
abbrev Vec:=Nat→Int
def zV:Vec:=fun _=>0
def ax (v:Vec) (c:Int) (r:Vec):Vec:=fun j=>v j+c*r j
inductive Sp (L:List Vec):Vec→Prop
  | zero:Sp L zV
  | add (v r:Vec) (c:Int):r∈L→Sp L v→Sp L (ax v c r)
theorem ax_ax (v:Vec) (c d:Int) (r q:Vec):ax (ax v c r) d q=ax (ax v d q) c r:=by funext j;simp only [ax];omega
theorem Sp.axs {L:List Vec} {u v:Vec} (hu:Sp L u) (t:Int) (hv:Sp L v):Sp L (ax u t v):=by
  induction hv with
  | zero => have e : ax u t zV = u := by funext j; simp [ax, zV]
            rw [e];exact hu
  | add v r c hr _ ih =>
    have e:ax u t (ax v c r)=ax (ax u t v) (t*c) r:=by funext j;simp only [ax];grind
    rw [e];exact .add _ _ _ hr ih
theorem Sp.of {L:List Vec} {r:Vec} (h:r∈L):Sp L r:=by
  have e:r=ax zV 1 r:=by funext j;simp [ax,zV]
  rw [e];exact .add _ _ _ h .zero
theorem Sp.le {L M:List Vec} {v:Vec} (h:∀ r∈L,Sp M r) (hv:Sp L v):Sp M v:=by
  induction hv with
  | zero=>exact .zero
  | add v r c hr _ ih=>exact ih.axs c (h r hr)
theorem Sp.mono {L M:List Vec} {v:Vec} (h:∀ r∈L,r∈M) (hv:Sp L v):Sp M v:=hv.le fun r hr=>.of (h r hr)
theorem Sp.sub {L:List Vec} {u v:Vec} (hu:Sp L u) (hv:Sp L v):Sp L (fun j=>u j-v j):=by
  have e:(fun j=>u j-v j)=ax u (-1) v:=by funext j;simp only [ax];omega
  rw [e];exact hu.axs (-1) hv
theorem Sp.mul {L:List Vec} {v:Vec} (t:Int) (hv:Sp L v):Sp L (fun j=>t*v j):=by
  have e:(fun j=>t*v j)=ax zV t v:=by funext j;simp [ax,zV]
  rw [e];exact Sp.zero.axs t hv
theorem Sp.neg {L:List Vec} {v:Vec} (hv:Sp L v):Sp L (fun j=>-v j):=by
  have e:(fun j=>-v j)=(fun j=>(-1)*v j):=by funext j;omega
  rw [e];exact hv.mul (-1)
theorem Sp.at0 {L:List Vec} {v:Vec} {j:Nat} (h:∀ r∈L,r j=0) (hv:Sp L v):v j=0:=by
  induction hv with
  | zero=>rfl
  | add v r c hr _ ih=>simp only [ax,ih,h r hr];omega
theorem Sp.nil {v:Vec} (h:Sp [] v):v=zV:=by
  cases h with
  | zero=>rfl
  | add v r c hr _=>cases hr
theorem Sp.cons {r:Vec} {L:List Vec} {v:Vec} (h:Sp (r::L) v):∃ c,Sp L (ax v c r):=by
  induction h with
  | zero => exact ⟨0, by have e : ax zV 0 r = zV := by funext j; simp [ax, zV]
                         rw [e];exact .zero⟩
  | add v q c hq _ ih =>
    obtain ⟨d,hd⟩:=ih
    rcases List.mem_cons.mp hq with rfl | hq
    · exact ⟨d - c, by have e : ax (ax v c q) (d - c) q = ax v d q := by funext j; simp only [ax]; grind
                       rw [e];exact hd⟩
    · exact ⟨d,by rw [ax_ax];exact .add _ _ _ hq hd⟩
theorem Sp.cons' {r:Vec} {L:List Vec} {v:Vec} {c:Int} (h:Sp L (ax v c r)):Sp (r::L) v:=by
  have e:v=ax (ax v c r) (-c) r:=by funext j;simp only [ax];grind
  rw [e];exact .add _ _ _ List.mem_cons_self (h.mono fun q hq=>List.mem_cons_of_mem _ hq)
def Eqv (L M:List Vec):Prop:=∀ v,Sp L v↔Sp M v
theorem Eqv.refl (L:List Vec):Eqv L L:=fun _=>Iff.rfl
theorem Eqv.symm {L M:List Vec} (h:Eqv L M):Eqv M L:=fun v=>(h v).symm
theorem Eqv.trans {L M N:List Vec} (h:Eqv L M) (g:Eqv M N):Eqv L N:=fun v=>(h v).trans (g v)
theorem Eqv.of {L M:List Vec} (h:∀ r∈L,Sp M r) (g:∀ r∈M,Sp L r):Eqv L M:=fun _=>⟨Sp.le h,Sp.le g⟩
theorem Eqv.perm {L M:List Vec} (h:L.Perm M):Eqv L M:=.of (fun r hr=>.of (h.mem_iff.mp hr)) fun r hr=>.of (h.mem_iff.mpr hr)
theorem Eqv.app {L M A B:List Vec} (h:Eqv L M) (g:Eqv A B):Eqv (L++A) (M++B):=by
  refine .of (fun r hr=>?_) fun r hr=>?_
  · rcases List.mem_append.mp hr with hr | hr
    · exact ((h r).mp (.of hr)).mono fun q hq=>List.mem_append_left _ hq
    · exact ((g r).mp (.of hr)).mono fun q hq=>List.mem_append_right _ hq
  · rcases List.mem_append.mp hr with hr | hr
    · exact ((h r).mpr (.of hr)).mono fun q hq=>List.mem_append_left _ hq
    · exact ((g r).mpr (.of hr)).mono fun q hq=>List.mem_append_right _ hq
def Red (B:Int→Int→Prop) (r:Vec):List Nat→List Vec→Prop
  | l::ls,q::P=>B (r l) (q l)∧Red B r ls P
  | _,_=>True
abbrev below (x y:Int):Prop:=0≤x∧x<y
abbrev near (x y:Int):Prop:=-y<x∧x<y
def Pl:Nat→List Nat→List Vec→Prop
  | _,[],[]=>True
  | lo,l::ls,r::P=>lo≤l∧(∀ i,i<l→r i=0)∧0<r l∧Red below r ls P∧Pl (l+1) ls P
  | _,_,_=>False
def Ec:Nat→List Nat→List Vec→Prop
  | _,[],[]=>True
  | lo,l::ls,r::P=>lo≤l∧(∀ i,i<l→r i=0)∧0<r l∧Ec (l+1) ls P
  | _,_,_=>False
theorem Pl.ec:∀ {lo:Nat} {ls:List Nat} {P:List Vec},Pl lo ls P→Ec lo ls P
  | _,[],[],_=>trivial
  | _,_::_,_::_,⟨a,b,c,_,e⟩=>⟨a,b,c,Pl.ec e⟩
  | _,[],_::_,h=>h.elim
  | _,_::_,[],h=>h.elim
theorem Ec.zero:∀ {lo:Nat} {ls:List Nat} {P:List Vec},Ec lo ls P→∀ r∈P,∀ i,i<lo→r i=0
  | _,[],[],_,_,hr,_,_=>nomatch hr
  | lo,l::ls,q::P,⟨a,b,c,e⟩,r,hr,i,hi=>by
    rcases List.mem_cons.mp hr with rfl | hr
    · exact b i (by omega)
    · exact Ec.zero e r hr i (by omega)
  | _,[],_::_,h,_,_,_,_=>h.elim
  | _,_::_,[],h,_,_,_,_=>h.elim
theorem Ec.len:∀ {lo:Nat} {ls:List Nat} {P:List Vec},Ec lo ls P→ls.length=P.length
  | _,[],[],_=>rfl
  | _,_::_,_::_,⟨_,_,_,e⟩=>by simp only [List.length_cons,Ec.len e]
  | _,[],_::_,h=>h.elim
  | _,_::_,[],h=>h.elim
theorem Ec.mono:∀ {lo lo':Nat} {ls:List Nat} {P:List Vec},lo'≤lo→Ec lo ls P→Ec lo' ls P
  | _,_,[],[],_,_=>trivial
  | _,_,_::_,_::_,h,⟨a,b⟩=>⟨Nat.le_trans h a,b⟩
  | _,_,[],_::_,_,h=>h.elim
  | _,_,_::_,[],_,h=>h.elim
theorem Ec.none:∀ {lo:Nat} {ls:List Nat} {P:List Vec} {v:Vec},Ec lo ls P→Sp P v→Red near v ls P→v=zV
  | _,[],[],v,_,h,_=>h.nil
  | lo,l::ls,r::P,v,⟨a,b,c,e⟩,h,⟨n,m⟩=>by
    obtain ⟨k,hk⟩:=h.cons
    have z:ax v k r l=0:=hk.at0 fun q hq=>Ec.zero e q hq l (by omega)
    have hk0:k=0:=by
      simp only [ax] at z
      obtain ⟨n1,n2⟩:=n
      have z':v l = -(k*r l):=by omega
      rw [z'] at n1 n2
      rcases Int.lt_trichotomy k 0 with q | q | q
      · have:k*r l ≤ -1*r l:=Int.mul_le_mul_of_nonneg_right (by omega) (by omega)
        omega
      · exact q
      · have:1*r l≤k*r l:=Int.mul_le_mul_of_nonneg_right (by omega) (by omega)
        omega
    subst hk0
    have ev:ax v 0 r=v:=by funext j;simp [ax]
    rw [ev] at hk
    exact Ec.none e hk m
  | _,[],_::_,_,h,_,_=>h.elim
  | _,_::_,[],_,h,_,_=>h.elim
def rem:List Nat→List Vec→Vec→Vec
  | l::ls,r::P,v=>rem ls P (ax v (-((v l).fdiv (r l))) r)
  | _,_,v=>v
theorem rem_at0 {j:Nat}:∀ (ls:List Nat) (P:List Vec) (v:Vec),(∀ r∈P,r j=0)→rem ls P v j=v j
  | [],P,v,_=>by cases P<;>rfl
  | _::_,[],v,_=>rfl
  | l::ls,r::P,v,h=>by
    simp only [rem]
    rw [rem_at0 ls P _ fun q hq=>h q (List.mem_cons_of_mem _ hq)]
    simp [ax,h r List.mem_cons_self]
theorem fdiv_below {x y:Int} (h:0<y):below (x + -(x.fdiv y)*y) y:=by
  have e:=Int.mul_fdiv_add_fmod x y
  have h1:=Int.fmod_nonneg_of_pos x h
  have h2:=Int.fmod_lt_of_pos x h
  have c:-(x.fdiv y)*y = -(y*x.fdiv y):=by rw [Int.neg_mul,Int.mul_comm]
  exact ⟨by omega,by omega⟩
theorem rem_red:∀ {lo:Nat} {ls:List Nat} {P:List Vec} (v:Vec),Ec lo ls P→Red below (rem ls P v) ls P
  | _,[],[],_,_=>trivial
  | lo,l::ls,r::P,v,⟨a,b,c,e⟩=>by
    refine ⟨?_,rem_red _ e⟩
    simp only [rem]
    rw [rem_at0 ls P _ fun q hq=>Ec.zero e q hq l (by omega)]
    exact fdiv_below c
  | _,[],_::_,_,h=>h.elim
  | _,_::_,[],_,h=>h.elim
theorem red_sub:∀ {ls:List Nat} {P:List Vec} {u v:Vec},Red below u ls P→Red below v ls P→Red near (fun j=>u j-v j) ls P
  | [],_,_,_,_,_=>by unfold Red;trivial
  | _::_,[],_,_,_,_=>by unfold Red;trivial
  | l::ls,r::P,u,v,⟨⟨a,b⟩,c⟩,⟨⟨d,e⟩,f⟩=>⟨⟨by dsimp only;omega,by dsimp only;omega⟩,red_sub c f⟩
theorem sub_zV {u v:Vec} (h:(fun j=>u j-v j)=zV):u=v:=by
  funext j
  have:=congrFun h j
  simp only [zV] at this
  omega
theorem Ec.tail {lo l:Nat} {ls:List Nat} {r:Vec} {P:List Vec} (e:Ec lo (l::ls) (r::P)) (v:Vec):Sp P v↔Sp (r::P) v∧v l=0:=by
  obtain ⟨a,b,c,e'⟩:=e
  constructor
  · intro h
    exact ⟨h.mono fun q hq=>List.mem_cons_of_mem _ hq,h.at0 fun q hq=>Ec.zero e' q hq l (by omega)⟩
  · rintro ⟨h,h0⟩
    obtain ⟨k,hk⟩:=h.cons
    have z:ax v k r l=0:=hk.at0 fun q hq=>Ec.zero e' q hq l (by omega)
    simp only [ax,h0,Int.zero_add] at z
    rcases Int.mul_eq_zero.mp z with z | z
    · subst z
      have ev:ax v 0 r=v:=by funext j;simp [ax]
      rwa [ev] at hk
    · omega
theorem Ec.first {lo l:Nat} {ls:List Nat} {r:Vec} {P:List Vec} (e:Ec lo (l::ls) (r::P)) {v:Vec} (h:Sp (r::P) v):(∀ i,i<l→v i=0)∧∃ k,v l=k*r l:=by
  obtain ⟨a,b,c,e'⟩:=e
  refine ⟨fun i hi=>h.at0 fun q hq=>?_,?_⟩
  · rcases List.mem_cons.mp hq with rfl | hq
    · exact b i hi
    · exact Ec.zero e' q hq i (by omega)
  · obtain ⟨k,hk⟩:=h.cons
    have z:ax v k r l=0:=hk.at0 fun q hq=>Ec.zero e' q hq l (by omega)
    exact ⟨-k,by simp only [ax] at z;rw [Int.neg_mul];omega⟩
theorem mul_pos_eq {x y k m:Int} (hx:0<x) (hy:0<y) (h:x=k*y) (g:y=m*x):x=y:=by
  have a:∀ {x y k:Int},0<x→0<y→x=k*y→y≤x:=fun {x y k} hx hy h=>by
    have hk:0<k:=by
      rcases Int.lt_trichotomy k 0 with q | q | q
      · have:=Int.mul_neg_of_neg_of_pos q hy;omega
      · subst q;simp at h;omega
      · exact q
    have:1*y≤k*y:=Int.mul_le_mul_of_nonneg_right (by omega) (by omega)
    omega
  exact Int.le_antisymm (a hy hx g) (a hx hy h)
theorem Pl.uniq:∀ {lo lo':Nat} {ls ls':List Nat} {P P':List Vec},Pl lo ls P→Pl lo' ls' P'→Eqv P P'→P=P'∧ls=ls'
  | _,_,[],[],[],[],_,_,_=>⟨rfl,rfl⟩
  | _,_,[],l::ls,[],r::P,_,⟨a,b,c,d,e⟩,h=>by
    have:=((h r).mpr (.of List.mem_cons_self)).nil
    rw [this] at c;simp [zV] at c
  | _,_,l::ls,[],r::P,[],⟨a,b,c,d,e⟩,_,h=>by
    have:=((h r).mp (.of List.mem_cons_self)).nil
    rw [this] at c;simp [zV] at c
  | lo,lo',l::ls,l' :: ls',r::P,r' :: P',p,p',h=>by
    have e:=p.ec
    have e':=p'.ec
    obtain ⟨a,b,c,d,t⟩:=p
    obtain ⟨a',b',c',d',t'⟩:=p'
    have f:=e'.first ((h r).mp (.of List.mem_cons_self))
    have f':=e.first ((h r').mpr (.of List.mem_cons_self))
    have hl:l=l':=by
      rcases Nat.lt_trichotomy l l' with q | q | q
      · have:=f.1 l q;omega
      · exact q
      · have:=f'.1 l' q;omega
    subst hl
    obtain ⟨k,hk⟩:=f.2
    obtain ⟨m,hm⟩:=f'.2
    have hr:r l=r' l:=mul_pos_eq c c' hk hm
    have ht:Eqv P P':=fun v=>by rw [e.tail v,e'.tail v,h v]
    obtain ⟨rfl,rfl⟩:=Pl.uniq t t' ht
    have hs:Sp P (fun j=>r j-r' j):=(e.tail _).mpr ⟨(Sp.of List.mem_cons_self).sub ((h r').mpr (.of List.mem_cons_self)),by simp only [hr];omega⟩
    have:=sub_zV (t.ec.none hs (red_sub d d'))
    subst this
    exact ⟨rfl,rfl⟩
  | _,_,[],_,_::_,_,h,_,_=>h.elim
  | _,_,_::_,_,[],_,h,_,_=>h.elim
  | _,_,_,[],_,_::_,_,h,_=>h.elim
  | _,_,_,_::_,_,[],_,h,_=>h.elim
end La
set_option linter.all false
namespace La
def at' (r:List Int) (j:Nat):Int:=r.getD j 0
def fv (r:List Int):Vec:=fun j=>r.getD j 0
def subZ (r:List Int) (t:Int) (s:List Int):List Int:=List.zipWith (fun a b=>a-t*b) r s
def lowZ (r l:List Int) (p:Nat):List Int:=subZ r ((at' r p).fdiv (at' l p)) l
theorem fv_at (r:List Int) (j:Nat):fv r j=at' r j:=rfl
theorem getD_zipWith {α β γ:Type} (f:α→β→γ) (a:α) (b:β):∀ (xs:List α) (ys:List β) (j:Nat),xs.length=ys.length→(List.zipWith f xs ys).getD j (f a b)=f (xs.getD j a) (ys.getD j b)
  | [],[],j,_=>by simp
  | x::xs,y::ys,0,_=>by simp
  | x::xs,y::ys,j+1,h=>by
    have:=getD_zipWith f a b xs ys j (by simpa using h)
    simpa using this
  | [],_::_,_,h=>by simp at h
  | _::_,[],_,h=>by simp at h
theorem subZ_len {r s:List Int} {t:Int} (h:r.length=s.length):(subZ r t s).length=r.length:=by simp [subZ,h]
theorem at_subZ {r s:List Int} {t:Int} (h:r.length=s.length) (j:Nat):at' (subZ r t s) j=at' r j-t*at' s j:=by
  have:=getD_zipWith (fun a b=>a-t*b) 0 0 r s j h
  simpa [subZ,at'] using this
theorem fv_subZ {r s:List Int} {t:Int} (h:r.length=s.length):fv (subZ r t s)=ax (fv r) (-t) (fv s):=by
  funext j
  have:=at_subZ (t:=t) h j
  simp only [fv_at,ax,this]
  rw [Int.neg_mul];omega
theorem fv_inj {r s:List Int} (h:r.length=s.length) (e:fv r=fv s):r=s:=by
  apply List.ext_getElem h
  intro i h1 h2
  have:=congrFun e i
  simpa [fv,List.getD,List.getElem?_eq_getElem h1,List.getElem?_eq_getElem h2] using this
theorem map_fv_inj:∀ {P Q:List (List Int)} {w:Nat},(∀ r∈P,r.length=w)→(∀ r∈Q,r.length=w)→P.map fv=Q.map fv→P=Q
  | [],[],_,_,_,_=>rfl
  | p::P,q::Q,w,h,g,e=>by
    simp only [List.map_cons,List.cons.injEq] at e
    rw [fv_inj ((h p List.mem_cons_self).trans (g q List.mem_cons_self).symm) e.1,map_fv_inj (fun r hr=>h r (List.mem_cons_of_mem _ hr)) (fun r hr=>g r (List.mem_cons_of_mem _ hr)) e.2]
  | [],_::_,_,_,_,e=>by simp at e
  | _::_,[],_,_,_,e=>by simp at e
theorem low_eq (a c:Int):a-a.fdiv c*c=a.fmod c:=by
  have:=Int.mul_fdiv_add_fmod a c
  rw [Int.mul_comm] at this
  omega
theorem fmod_small {a c:Int} (h:c≠0):(a.fmod c).natAbs<c.natAbs:=by
  rcases Int.lt_or_gt_of_ne h with h | h
  · have h1:=Int.fmod_nonneg_of_pos (-a) (show 0 < -c by omega)
    have h2:=Int.fmod_lt_of_pos (-a) (show 0 < -c by omega)
    rw [Int.neg_fmod_neg] at h1 h2
    omega
  · have h1:=Int.fmod_nonneg_of_pos a h
    have h2:=Int.fmod_lt_of_pos a h
    omega
theorem fmod_sign {a c:Int} (h:c≠0) (h0:a.fmod c≠0):0<a.fmod c*c:=by
  rcases Int.lt_or_gt_of_ne h with h | h
  · have h1:=Int.fmod_nonneg_of_pos (-a) (show 0 < -c by omega)
    rw [Int.neg_fmod_neg] at h1
    exact Int.mul_pos_of_neg_of_neg (by omega) h
  · have h1:=Int.fmod_nonneg_of_pos a h
    exact Int.mul_pos (by omega) h
theorem fdiv_abs {a c:Int} {m:Nat} (h:c≠0) (hm:a.natAbs≤m):(a.fdiv c).natAbs≤m / c.natAbs+1:=by
  have e:=Int.mul_fdiv_add_fmod a c
  have s:=fmod_small (a:=a) h
  have hc:0<c.natAbs:=by omega
  have e2:(c*a.fdiv c).natAbs=c.natAbs*(a.fdiv c).natAbs:=Int.natAbs_mul ..
  have e3:(c*a.fdiv c).natAbs≤m+(c.natAbs-1):=by omega
  rw [e2] at e3
  generalize (a.fdiv c).natAbs=q at *
  generalize c.natAbs=d at *
  rcases Nat.lt_or_ge (m / d+1) q with z | z
  · exfalso
    have h1:d*(m / d+1+1)≤d*q:=Nat.mul_le_mul_left d z
    have h2:=Nat.lt_mul_div_succ m hc
    have h3:d*(m / d+1+1)=d*(m / d+1)+d:=by rw [Nat.mul_add d (m / d+1) 1,Nat.mul_one]
    omega
  · exact z
theorem same_sign {a c:Int} (h:c≠0) (hs:0<a*c) (hle:c.natAbs≤a.natAbs):((a.fdiv c).natAbs*c.natAbs+(a.fmod c).natAbs=a.natAbs)∧1≤(a.fdiv c).natAbs:=by
  have e:=Int.mul_fdiv_add_fmod a c
  have key:∀ {a c:Int},0<a→0<c→c≤a→((a.fdiv c).natAbs*c.natAbs+(a.fmod c).natAbs=a.natAbs)∧1≤(a.fdiv c).natAbs:=fun {a c} ha hc hle=>by
    have e:=Int.mul_fdiv_add_fmod a c
    have h1:=Int.fmod_nonneg_of_pos a hc
    have h2:=Int.fmod_lt_of_pos a hc
    have q1:1≤a.fdiv c:=by
      rcases Int.lt_or_le 0 (a.fdiv c) with z | z
      · omega
      · have:=Int.mul_nonpos_of_nonneg_of_nonpos (show 0≤c by omega) z
        omega
    refine ⟨?_,by omega⟩
    have h3:(((a.fdiv c).natAbs*c.natAbs:Nat):Int)=c*a.fdiv c:=by
      rw [Int.natCast_mul,Int.natAbs_of_nonneg (by omega),Int.natAbs_of_nonneg (by omega),Int.mul_comm]
    omega
  rcases Int.lt_or_gt_of_ne h with z | z
  · have ha:a<0:=by
      rcases Int.lt_trichotomy a 0 with y | y | y
      · exact y
      · subst y;simp at hs
      · have:=Int.mul_neg_of_pos_of_neg y z;omega
    have k:=key (a:=-a) (c:=-c) (by omega) (by omega) (by omega)
    rw [Int.neg_fdiv_neg,Int.neg_fmod_neg] at k
    simpa using k
  · have ha:0<a:=by
      rcases Int.lt_trichotomy a 0 with y | y | y
      · have:=Int.mul_neg_of_neg_of_pos y z;omega
      · subst y;simp at hs
      · exact y
    exact key ha z (by omega)
structure GI (w pl N e f m R B:Nat) (rows0 busy clear:List (List Int)):Prop where
  len:∀ r∈busy++clear,r.length=w
  eqv:Eqv ((busy++clear).map fv) (rows0.map fv)
  bz:∀ r∈busy,at' r pl≠0
  cz:∀ r∈clear,at' r pl=0
  cnt:busy.length+clear.length=N
  mb:∀ r∈busy,(at' r pl).natAbs≤m
  rb:∀ r∈busy,∀ j,(at' r j).natAbs≤R
  cb:∀ r∈clear,∀ j,(at' r j).natAbs≤B
  pot:(f=1∧6*(R*m*m)≤B)∨(1≤e∧(busy.Pairwise fun r s=>(at' r pl).natAbs+(at' s pl).natAbs≤e)∧(∀ r∈busy,∀ s∈busy,0<at' r pl*at' s pl)∧R*m*e≤B)
theorem GI.bound {w pl N e f m R B:Nat} {rows0 busy clear:List (List Int)} (h:GI w pl N e f m R B rows0 busy clear) (hb:busy≠[]):R≤B∧1≤m:=by
  cases busy with
  | nil=>exact absurd rfl hb
  | cons r t =>
    have h1:=h.bz r List.mem_cons_self
    have h2:=h.mb r List.mem_cons_self
    have hm:1≤m:=by omega
    refine ⟨?_,hm⟩
    have h3:R*1≤R*m:=Nat.mul_le_mul_left R hm
    rcases h.pot with ⟨_,h5⟩ | ⟨he,_,_,h5⟩
    · have h4:R*m*1≤R*m*m:=Nat.mul_le_mul_left _ hm
      omega
    · have h4:R*m*1≤R*m*e:=Nat.mul_le_mul_left _ he
      omega
theorem GI.all {w pl N e f m R B:Nat} {rows0 busy clear:List (List Int)} (h:GI w pl N e f m R B rows0 busy clear):∀ r∈busy++clear,∀ j,(at' r j).natAbs≤B:=fun r hr j=>by
  rcases List.mem_append.mp hr with hr | hr
  · exact Nat.le_trans (h.rb r hr j) (h.bound (List.ne_nil_of_mem hr)).1
  · exact h.cb r hr j
theorem pairwise_all {α:Type} {R:α→α→Prop}:∀ {l:List α},(∀ x∈l,∀ y∈l,R x y)→l.Pairwise R
  | [],_=>.nil
  | a::l,h=>.cons (fun y hy=>h a List.mem_cons_self y (List.mem_cons_of_mem _ hy)) (pairwise_all fun x hx y hy=>h x (List.mem_cons_of_mem _ hx) y (List.mem_cons_of_mem _ hy))
theorem GI.perm {w pl N e f m R B:Nat} {rows0 busy busy' clear:List (List Int)} (h:GI w pl N e f m R B rows0 busy clear) (p:busy'.Perm busy):GI w pl N e f m R B rows0 busy' clear where
  len:=fun r hr=>h.len r (((p.append_right clear)).mem_iff.mp hr)
  eqv:=(Eqv.perm ((p.append_right clear).map fv)).trans h.eqv
  bz:=fun r hr=>h.bz r (p.mem_iff.mp hr)
  cz:=h.cz
  cnt:=by rw [p.length_eq];exact h.cnt
  mb:=fun r hr=>h.mb r (p.mem_iff.mp hr)
  rb:=fun r hr=>h.rb r (p.mem_iff.mp hr)
  cb:=h.cb
  pot:=h.pot.imp id fun ⟨a,b,c,d⟩=>⟨a,(p.pairwise_iff fun {x y} q=>by rw [Nat.add_comm];exact q).mpr b,fun r hr s hs=>c r (p.mem_iff.mp hr) s (p.mem_iff.mp hs),d⟩
theorem GI.turn {w pl N e f m R B:Nat} {rows0 clear rest:List (List Int)} {p0:List Int} (h:GI w pl N e f m R B rows0 (p0::rest) clear) (hw:pl<w) (ho:∀ r∈rest,(at' p0 pl).natAbs≤(at' r pl).natAbs) (hr:rest≠[]) :
    ∃ e' m' R',m'≤m∧GI w pl N e' 0 m' R' B rows0 (p0::(rest.map fun r=>lowZ r p0 pl).filter fun r=>at' r pl != 0) (clear++(rest.map fun r=>lowZ r p0 pl).filter fun r=>at' r pl==0):=by
  have hc:at' p0 pl≠0:=h.bz p0 List.mem_cons_self
  have l0:p0.length=w:=h.len p0 (by simp)
  have lr:∀ r∈rest,r.length=w:=fun r hr=>h.len r (by simp [hr])
  have val:∀ r∈rest,at' (lowZ r p0 pl) pl=(at' r pl).fmod (at' p0 pl):=fun r hr=>by
    unfold lowZ
    rw [at_subZ ((lr r hr).trans l0.symm),low_eq]
  obtain ⟨hc1,hcm⟩:0<(at' p0 pl).natAbs∧(at' p0 pl).natAbs≤m:=⟨by omega,h.mb p0 List.mem_cons_self⟩
  have ne2:∃ r,r∈rest:=by
    cases rest with
    | nil=>exact absurd rfl hr
    | cons r _=>exact ⟨r,List.mem_cons_self⟩
  have smallB:∀ r∈rest,(at' (lowZ r p0 pl) pl).natAbs<(at' p0 pl).natAbs:=fun r hr=>by rw [val r hr];exact fmod_small (a:=at' r pl) hc
  obtain ⟨e',R',he',hR,hq,hpw,hB⟩:∃ e' R':Nat,1≤e'∧R≤R'∧(∀ r∈rest,R+((at' r pl).fdiv (at' p0 pl)).natAbs*R≤R')∧(∀ r∈rest,(at' p0 pl).natAbs+(at' (lowZ r p0 pl) pl).natAbs≤e')∧R' * (at' p0 pl).natAbs*e'≤B:=by
    rcases h.pot with ⟨_,hp⟩ | ⟨he,hp,hs,hb⟩
    · refine ⟨2*(at' p0 pl).natAbs,R+(m / (at' p0 pl).natAbs+1)*R,by omega,Nat.le_add_right _ _,fun r hr=>?_,fun r hr=>?_,?_⟩
      · exact Nat.add_le_add_left (Nat.mul_le_mul_right R (fdiv_abs hc (h.mb r (List.mem_cons_of_mem _ hr)))) R
      · have:=smallB r hr;omega
      · generalize (at' p0 pl).natAbs=c at hc1 hcm
        have h1:m / c*c≤m:=Nat.div_mul_le_self m c
        have h2:(R+(m / c+1)*R)*c=R*(m / c*c)+R*c+R*c:=by grind
        have h3:R*(m / c*c)≤R*m:=Nat.mul_le_mul_left R h1
        have h4:R*c≤R*m:=Nat.mul_le_mul_left R hcm
        have h5:(R+(m / c+1)*R)*c≤3*(R*m):=by omega
        have h6:(R+(m / c+1)*R)*c*(2*c)≤3*(R*m)*(2*m):=Nat.mul_le_mul h5 (by omega)
        have h7:3*(R*m)*(2*m)=6*(R*m*m):=by grind
        omega
    · have pp:=(List.pairwise_cons.mp hp).1
      have m1:1≤m:=by omega
      have fit:∀ r∈rest,(((at' r pl).fdiv (at' p0 pl)).natAbs*(at' p0 pl).natAbs+((at' r pl).fmod (at' p0 pl)).natAbs=(at' r pl).natAbs)∧1≤((at' r pl).fdiv (at' p0 pl)).natAbs:=fun r hr=>by
        have h1:=hs r (List.mem_cons_of_mem _ hr) p0 List.mem_cons_self
        have h2:=ho r hr
        exact same_sign hc h1 h2
      refine ⟨m,R*e / (at' p0 pl).natAbs,m1,?_,fun r hr=>?_,fun r hr=>?_,?_⟩
      · obtain ⟨r,hr⟩:=ne2
        have h1:=pp r hr
        refine (Nat.le_div_iff_mul_le hc1).mpr (Nat.mul_le_mul_left R (by omega))
      · have h1:=pp r hr
        obtain ⟨h2,h3⟩:=fit r hr
        refine (Nat.le_div_iff_mul_le hc1).mpr ?_
        have h4:(R+((at' r pl).fdiv (at' p0 pl)).natAbs*R)*(at' p0 pl).natAbs=R*((at' p0 pl).natAbs+((at' r pl).fdiv (at' p0 pl)).natAbs*(at' p0 pl).natAbs):=by grind
        rw [h4]
        exact Nat.mul_le_mul_left R (by omega)
      · obtain ⟨h2,h3⟩:=fit r hr
        rw [val r hr]
        have h4:=h.mb r (List.mem_cons_of_mem _ hr)
        have h5:1*(at' p0 pl).natAbs≤((at' r pl).fdiv (at' p0 pl)).natAbs*(at' p0 pl).natAbs:=Nat.mul_le_mul_right _ h3
        omega
      · have h1:R*e / (at' p0 pl).natAbs*(at' p0 pl).natAbs≤R*e:=Nat.div_mul_le_self _ _
        have h2:=Nat.mul_le_mul_right m h1
        have h3:R*e*m=R*m*e:=by grind
        omega
  have ent:∀ r∈rest,∀ j,(at' (lowZ r p0 pl) j).natAbs≤R':=fun r hr j=>by
    refine Nat.le_trans ?_ (hq r hr)
    unfold lowZ
    rw [at_subZ ((lr r hr).trans l0.symm)]
    have h1:=h.rb r (List.mem_cons_of_mem _ hr) j
    have h2:=h.rb p0 List.mem_cons_self j
    have h3:((at' r pl).fdiv (at' p0 pl)*at' p0 j).natAbs≤((at' r pl).fdiv (at' p0 pl)).natAbs*R:=by
      rw [Int.natAbs_mul];exact Nat.mul_le_mul_left _ h2
    omega
  have memB:∀ r',r'∈((rest.map fun r=>lowZ r p0 pl).filter fun r=>at' r pl != 0)→∃ r∈rest,r' = lowZ r p0 pl∧at' r' pl≠0:=fun r' hr'=>by
    obtain ⟨h1,h2⟩:=List.mem_filter.mp hr'
    obtain ⟨r,hr,rfl⟩:=List.mem_map.mp h1
    exact ⟨r,hr,rfl,by simpa using h2⟩
  have memC:∀ r',r'∈((rest.map fun r=>lowZ r p0 pl).filter fun r=>at' r pl==0)→∃ r∈rest,r' = lowZ r p0 pl∧at' r' pl=0:=fun r' hr'=>by
    obtain ⟨h1,h2⟩:=List.mem_filter.mp hr'
    obtain ⟨r,hr,rfl⟩:=List.mem_map.mp h1
    exact ⟨r,hr,rfl,by simpa using h2⟩
  have lowLen:∀ r∈rest,(lowZ r p0 pl).length=w:=fun r hr=>by unfold lowZ;rw [subZ_len ((lr r hr).trans l0.symm)];exact lr r hr
  have RB:R'≤B:=by
    have h1:R' * 1≤R' * (at' p0 pl).natAbs:=Nat.mul_le_mul_left _ hc1
    have h2:R' * (at' p0 pl).natAbs*1≤R' * (at' p0 pl).natAbs*e':=Nat.mul_le_mul_left _ he'
    omega
  refine ⟨e',(at' p0 pl).natAbs,R',hcm,?len,?eqv,?bz,?cz,?cnt,?mb,?rb,?cb,.inr ⟨he',?pw,?sg,hB⟩⟩
  case len =>
    intro r hr
    rcases List.mem_append.mp hr with hr | hr
    · rcases List.mem_cons.mp hr with rfl | hr
      · exact l0
      · obtain ⟨q,hq,rfl,_⟩:=memB r hr;exact lowLen q hq
    · rcases List.mem_append.mp hr with hr | hr
      · exact h.len r (List.mem_append_right _ hr)
      · obtain ⟨q,hq,rfl,_⟩:=memC r hr;exact lowLen q hq
  case eqv =>
    refine Eqv.trans ?_ h.eqv
    have fl:∀ r∈rest,fv (lowZ r p0 pl)=ax (fv r) (-((at' r pl).fdiv (at' p0 pl))) (fv p0):=fun r hr=>fv_subZ ((lr r hr).trans l0.symm)
    refine .of (fun v hv=>?_) fun v hv=>?_
    · obtain ⟨r',hr',rfl⟩:=List.mem_map.mp hv
      have s0:Sp ((p0::rest++clear).map fv) (fv p0):=.of (List.mem_map_of_mem (by simp))
      have sl:∀ r∈rest,Sp ((p0::rest++clear).map fv) (fv (lowZ r p0 pl)):=fun r hr=>by
        rw [fl r hr];exact Sp.axs (.of (List.mem_map_of_mem (by simp [hr]))) _ s0
      rcases List.mem_append.mp hr' with hr' | hr'
      · rcases List.mem_cons.mp hr' with rfl | hr'
        · exact s0
        · obtain ⟨q,hq,rfl,_⟩:=memB r' hr';exact sl q hq
      · rcases List.mem_append.mp hr' with hr' | hr'
        · exact .of (List.mem_map_of_mem (by simp [hr']))
        · obtain ⟨q,hq,rfl,_⟩:=memC r' hr';exact sl q hq
    · obtain ⟨r,hr,rfl⟩:=List.mem_map.mp hv
      generalize hM:(p0::((rest.map fun r=>lowZ r p0 pl).filter fun r=>at' r pl != 0)++(clear++(rest.map fun r=>lowZ r p0 pl).filter fun r=>at' r pl==0))=M
      have s0:Sp (M.map fv) (fv p0):=.of (List.mem_map_of_mem (by rw [← hM];simp))
      rcases List.mem_append.mp hr with hr | hr
      · rcases List.mem_cons.mp hr with rfl | hr
        · exact s0
        · have sl:Sp (M.map fv) (fv (lowZ r p0 pl)):=by
            refine .of (List.mem_map_of_mem ?_)
            rw [← hM]
            have hm:lowZ r p0 pl∈rest.map fun r=>lowZ r p0 pl:=List.mem_map_of_mem hr
            by_cases z:at' (lowZ r p0 pl) pl=0
            · refine List.mem_append_right _ (List.mem_append_right _ (List.mem_filter.mpr ⟨hm,by simp [z]⟩))
            · exact List.mem_append_left _ (List.mem_cons_of_mem _ (List.mem_filter.mpr ⟨hm,by simp [z]⟩))
          have e3:fv r=ax (fv (lowZ r p0 pl)) ((at' r pl).fdiv (at' p0 pl)) (fv p0):=by
            rw [fl r hr];funext j;simp only [ax];grind
          rw [e3];exact sl.axs _ s0
      · exact .of (List.mem_map_of_mem (by rw [← hM];simp [hr]))
  case bz =>
    intro r hr
    rcases List.mem_cons.mp hr with rfl | hr
    · exact hc
    · obtain ⟨q,hq,rfl,z⟩:=memB r hr;exact z
  case cz =>
    intro r hr
    rcases List.mem_append.mp hr with hr | hr
    · exact h.cz r hr
    · obtain ⟨q,hq,rfl,z⟩:=memC r hr;exact z
  case cnt =>
    have h1:=h.cnt
    have h2:∀ (l:List (List Int)),(l.filter fun r=>at' r pl != 0).length+(l.filter fun r=>at' r pl==0).length=l.length:=fun l=>by
      induction l with
      | nil=>rfl
      | cons a l ih =>
        by_cases z:at' a pl=0
        · simp [z];omega
        · simp [z];omega
    have h3:=h2 (rest.map fun r=>lowZ r p0 pl)
    rw [List.length_map] at h3
    simp only [List.length_cons,List.length_append] at h1 ⊢
    omega
  case mb =>
    intro r hr
    rcases List.mem_cons.mp hr with rfl | hr
    · exact Nat.le_refl _
    · obtain ⟨q,hq,rfl,_⟩:=memB r hr;exact Nat.le_of_lt (smallB q hq)
  case rb =>
    intro r hr j
    rcases List.mem_cons.mp hr with rfl | hr
    · exact Nat.le_trans (h.rb r List.mem_cons_self j) hR
    · obtain ⟨q,hq,rfl,_⟩:=memB r hr;exact ent q hq j
  case cb =>
    intro r hr j
    rcases List.mem_append.mp hr with hr | hr
    · exact h.cb r hr j
    · obtain ⟨q,hq,rfl,_⟩:=memC r hr;exact Nat.le_trans (ent q hq j) RB
  case pw =>
    refine .cons (fun y hy=>?_) (pairwise_all fun x hx y hy=>?_)
    · obtain ⟨q,hq,rfl,_⟩:=memB y hy;exact hpw q hq
    · obtain ⟨q,hq,rfl,_⟩:=memB x hx
      obtain ⟨q2,hq2,rfl,_⟩:=memB y hy
      have h1:=smallB q hq
      have h2:=hpw q2 hq2
      omega
  case sg =>
    intro r hr s hs
    have key:∀ r,r∈p0::((rest.map fun r=>lowZ r p0 pl).filter fun r=>at' r pl != 0)→0<at' r pl*at' p0 pl:=fun r hr=>by
      rcases List.mem_cons.mp hr with rfl | hr
      · rcases Int.lt_or_gt_of_ne hc with z | z
        · exact Int.mul_pos_of_neg_of_neg z z
        · exact Int.mul_pos z z
      · obtain ⟨q,hq,rfl,z⟩:=memB r hr
        rw [val q hq] at z ⊢
        exact fmod_sign hc z
    have k1:=key r hr
    have k2:=key s hs
    have sq:0<(at' p0 pl)*(at' p0 pl):=by
      rcases Int.lt_or_gt_of_ne hc with z | z
      · exact Int.mul_pos_of_neg_of_neg z z
      · exact Int.mul_pos z z
    have h1:0<(at' r pl*at' p0 pl)*(at' s pl*at' p0 pl):=Int.mul_pos k1 k2
    have h2:(at' r pl*at' p0 pl)*(at' s pl*at' p0 pl)=(at' r pl*at' s pl)*((at' p0 pl)*(at' p0 pl)):=by grind
    rw [h2] at h1
    rcases Int.lt_or_le 0 (at' r pl*at' s pl) with z | z
    · exact z
    · have:=Int.mul_nonpos_of_nonpos_of_nonneg z (show 0≤at' p0 pl*at' p0 pl by omega)
      omega
def Bd (b:Nat) (rows:List (List Int)):Prop:=∀ r∈rows,∀ j,(at' r j).natAbs≤2 ^ b
structure Gath (w pl b b':Nat) (rows0 out:List (List Int)):Prop where
  len:∀ r∈out,r.length=w
  eqv:Eqv (out.map fv) (rows0.map fv)
  cnt:out.length=rows0.length
  tail:∀ r∈out.drop 1,at' r pl=0
  head:∀ r∈out.take 1,(at' r pl).natAbs≤2 ^ b
  bd:Bd b' out
def nb (b:Nat):Nat:=3*b+3
theorem GI.start {w pl b:Nat} {rows:List (List Int)} (hl:∀ r∈rows,r.length=w) (hb:Bd b rows) :
    GI w pl rows.length 1 1 (2 ^ b) (2 ^ b) (2 ^ nb b) rows (rows.filter fun r=>at' r pl != 0) (rows.filter fun r=>at' r pl==0) where
  len:=fun r hr=>by
    rcases List.mem_append.mp hr with hr | hr
    · exact hl r (List.mem_filter.mp hr).1
    · exact hl r (List.mem_filter.mp hr).1
  eqv:=by
    refine .of (fun v hv=>?_) fun v hv=>?_
    · obtain ⟨r,hr,rfl⟩:=List.mem_map.mp hv
      refine .of (List.mem_map_of_mem ?_)
      rcases List.mem_append.mp hr with hr | hr
      · exact (List.mem_filter.mp hr).1
      · exact (List.mem_filter.mp hr).1
    · obtain ⟨r,hr,rfl⟩:=List.mem_map.mp hv
      refine .of (List.mem_map_of_mem ?_)
      by_cases z:at' r pl=0
      · exact List.mem_append_right _ (List.mem_filter.mpr ⟨hr,by simp [z]⟩)
      · exact List.mem_append_left _ (List.mem_filter.mpr ⟨hr,by simp [z]⟩)
  bz:=fun r hr=>by simpa using (List.mem_filter.mp hr).2
  cz:=fun r hr=>by simpa using (List.mem_filter.mp hr).2
  cnt:=by
    induction rows with
    | nil=>rfl
    | cons a l ih =>
      have ih:=ih (fun r hr=>hl r (List.mem_cons_of_mem _ hr)) (fun r hr=>hb r (List.mem_cons_of_mem _ hr))
      by_cases z:at' a pl=0
      · simp [z];omega
      · simp [z];omega
  mb:=fun r hr=>hb r (List.mem_filter.mp hr).1 pl
  rb:=fun r hr=>hb r (List.mem_filter.mp hr).1
  cb:=fun r hr j=>Nat.le_trans (hb r (List.mem_filter.mp hr).1 j) (Nat.pow_le_pow_right (by decide) (by unfold nb;omega))
  pot:=.inl ⟨rfl,by
    have h2:2 ^ (3*b+3)=8*(2 ^ b*2 ^ b*2 ^ b):=by
      rw [← Nat.pow_add,← Nat.pow_add,Nat.pow_add,Nat.mul_comm,show b+b+b=3*b by omega]
    unfold nb
    rw [h2]
    exact Nat.mul_le_mul_right _ (by decide)⟩
theorem GI.gath {w pl N e f m R b:Nat} {rows0 busy clear:List (List Int)} (h:GI w pl N e f m R (2 ^ nb b) rows0 busy clear) (hm:m≤2 ^ b) (h1:busy.length≤1) (hN:N=rows0.length):Gath w pl b (nb b) rows0 (busy++clear) where
  len:=h.len
  eqv:=h.eqv
  cnt:=by rw [List.length_append,h.cnt,hN]
  tail:=fun r hr=>by
    cases busy with
    | nil=>exact h.cz r (List.mem_of_mem_drop hr)
    | cons x t =>
      have:t=[]:=List.length_eq_zero_iff.mp (by simp at h1;simp [h1])
      subst this
      simp at hr
      exact h.cz r hr
  head:=fun r hr=>by
    cases busy with
    | nil =>
      have hr':r∈clear:=List.mem_of_mem_take hr
      rw [h.cz r hr'];simp
    | cons x t =>
      simp at hr
      subst hr
      exact Nat.le_trans (h.mb r List.mem_cons_self) hm
  bd:=h.all
def busySum (pl:Nat) (rows:List (List Int)):Nat:=(rows.map fun r=>(at' r pl).natAbs).sum
theorem busySum_perm {pl:Nat} {l m:List (List Int)} (p:l.Perm m):busySum pl l=busySum pl m:=by
  induction p with
  | nil=>rfl
  | cons x _ ih=>simp only [busySum,List.map_cons,List.sum_cons] at ih ⊢;omega
  | swap x y l=>simp only [busySum,List.map_cons,List.sum_cons];omega
  | trans _ _ a b=>exact a.trans b
theorem busySum_turn {w pl N e f m R B:Nat} {rows0 clear rest:List (List Int)} {p0:List Int} (h:GI w pl N e f m R B rows0 (p0::rest) clear) (ho:∀ r∈rest,(at' p0 pl).natAbs≤(at' r pl).natAbs) (hr:rest≠[]) :
    busySum pl (p0::(rest.map fun r=>lowZ r p0 pl).filter fun r=>at' r pl != 0)<busySum pl (p0::rest):=by
  have hc:at' p0 pl≠0:=h.bz p0 List.mem_cons_self
  have l0:p0.length=w:=h.len p0 (by simp)
  have val:∀ r∈rest,(at' (lowZ r p0 pl) pl).natAbs<(at' r pl).natAbs:=fun r hr=>by
    unfold lowZ
    rw [at_subZ ((h.len r (by simp [hr])).trans l0.symm),low_eq]
    exact Nat.lt_of_lt_of_le (fmod_small hc) (ho r hr)
  have le:∀ (l:List (List Int)),(∀ r∈l,(at' (lowZ r p0 pl) pl).natAbs<(at' r pl).natAbs)→busySum pl ((l.map fun r=>lowZ r p0 pl).filter fun r=>at' r pl != 0)+l.length≤busySum pl l:=by
    intro l
    induction l with
    | nil=>intro _;exact Nat.le_refl _
    | cons a l ih =>
      intro hv
      have h1:=ih fun r hr=>hv r (List.mem_cons_of_mem _ hr)
      have h2:=hv a List.mem_cons_self
      by_cases z:at' (lowZ a p0 pl) pl=0
      · simp only [List.map_cons,busySum,List.sum_cons,List.length_cons] at h1 ⊢
        rw [List.filter_cons_of_neg (by simp [z])]
        omega
      · simp only [List.map_cons,busySum,List.sum_cons,List.length_cons] at h1 ⊢
        rw [List.filter_cons_of_pos (by simp [z])]
        simp only [List.map_cons,List.sum_cons]
        omega
  have:=le rest val
  have hl:0<rest.length:=List.length_pos_iff.mpr hr
  simp only [busySum,List.map_cons,List.sum_cons] at this ⊢
  omega
end La
set_option linter.all false
namespace La
def negZ (r:List Int):List Int:=r.map fun a=>-a
theorem negZ_len (r:List Int):(negZ r).length=r.length:=by simp [negZ]
theorem at_negZ (r:List Int) (j:Nat):at' (negZ r) j = -at' r j:=by
  simp only [at',negZ,List.getD,List.getElem?_map]
  cases r[j]?<;>simp
theorem fv_negZ (r:List Int):fv (negZ r)=fun j=>-fv r j:=by funext j;exact at_negZ r j
def lineZ (r:List Int) (pl:Nat):List Int:=if at' r pl<0 then negZ r else r
theorem lineZ_len (r:List Int) (pl:Nat):(lineZ r pl).length=r.length:=by unfold lineZ;split;exact negZ_len r;rfl
theorem lineZ_pos {r:List Int} {pl:Nat} (h:at' r pl≠0):0<at' (lineZ r pl) pl:=by
  unfold lineZ;split
  · rw [at_negZ];omega
  · omega
theorem lineZ_abs (r:List Int) (pl j:Nat):(at' (lineZ r pl) j).natAbs=(at' r j).natAbs:=by
  unfold lineZ;split
  · rw [at_negZ];omega
  · rfl
theorem lineZ_sp {L:List Vec} {r:List Int} {pl:Nat}:Sp L (fv (lineZ r pl))↔Sp L (fv r):=by
  unfold lineZ;split
  · rw [fv_negZ]
    refine ⟨fun h=>?_,fun h=>h.neg⟩
    have:=h.neg
    have e:(fun j=>- -fv r j)=fv r:=by funext j;omega
    rwa [e] at this
  · exact Iff.rfl
def stackZ (S:List (List Int)) (r:List Int) (pl:Nat):List (List Int):=(S.map fun a=>lowZ a (lineZ r pl) pl)++[lineZ r pl]
def lowV (q:Vec) (l:Nat) (r:Vec):Vec:=ax r (-((r l).fdiv (q l))) q
theorem red_low {q:Vec} {l:Nat} (hq:∀ i,i<l→q i=0) (hp:0<q l) (r:Vec):∀ (ls:List Nat) (P:List Vec),(∀ x∈ls,x<l)→ls.length=P.length→Red below r ls P→Red below (lowV q l r) (ls++[l]) (P.map (lowV q l)++[q])
  | [],[],_,_,_=>⟨by simp only [lowV,ax];exact fdiv_below hp,trivial⟩
  | x::ls,p::P,hx,hl,⟨a,b⟩=>by
    have z:=hq x (hx x List.mem_cons_self)
    refine ⟨?_,red_low hq hp r ls P (fun y hy=>hx y (List.mem_cons_of_mem _ hy)) (by simpa using hl) b⟩
    simp only [lowV,ax,z,Int.mul_zero,Int.add_zero]
    exact a
  | [],_::_,_,hl,_=>by simp at hl
  | _::_,[],_,hl,_=>by simp at hl
theorem Pl.snoc {q:Vec} {l:Nat} (hq:∀ i,i<l→q i=0) (hp:0<q l):∀ {lo:Nat} {ls:List Nat} {P:List Vec},Pl lo ls P→(∀ x∈ls,x<l)→lo≤l→Pl lo (ls++[l]) (P.map (lowV q l)++[q])
  | _,[],[],_,_,hlo=>⟨hlo,hq,hp,trivial,trivial⟩
  | lo,x::ls,r::P,⟨a,b,c,d,e⟩,hx,hlo=>by
    have hxl:=hx x List.mem_cons_self
    have keep:∀ i,i<l→lowV q l r i=r i:=fun i hi=>by simp only [lowV,ax,hq i hi];omega
    refine ⟨a,fun i hi=>?_,?_,?_,Pl.snoc hq hp e (fun y hy=>hx y (List.mem_cons_of_mem _ hy)) hxl⟩
    · rw [keep i (by omega)];exact b i hi
    · rw [keep x hxl];exact c
    · exact red_low hq hp r ls P (fun y hy=>hx y (List.mem_cons_of_mem _ hy)) e.ec.len d
  | _,[],_::_,h,_,_=>h.elim
  | _,_::_,[],h,_,_=>h.elim
theorem fv_lowZ {a q:List Int} {pl:Nat} (h:a.length=q.length):fv (lowZ a q pl)=lowV (fv q) pl (fv a):=fv_subZ h
structure IsPl (w:Nat) (rows P:List (List Int)):Prop where
  len:∀ r∈P,r.length=w
  pl:∃ ls,Pl 0 ls (P.map fv)∧∀ x∈ls,x<w
  eqv:Eqv (P.map fv) (rows.map fv)
theorem IsPl.uniq {w:Nat} {rows rows' P P':List (List Int)} (h:IsPl w rows P) (h':IsPl w rows' P') (e:Eqv (rows.map fv) (rows'.map fv)):P=P':=by
  obtain ⟨ls,p,_⟩:=h.pl
  obtain ⟨ls',p',_⟩:=h'.pl
  exact map_fv_inj h.len h'.len (p.uniq p' ((h.eqv.trans e).trans h'.eqv.symm)).1
def bb (b:Nat):Nat→Nat
  | 0=>b
  | k+1=>nb (bb b k)
def ss (b:Nat):Nat→Nat
  | 0=>0
  | k+1=>ss b k+bb b (k+1)+1
structure PI (w b k:Nat) (lot S T:List (List Int)):Prop where
  lenS:∀ r∈S,r.length=w
  lenT:∀ r∈T,r.length=w
  eqv:Eqv ((S++T).map fv) (lot.map fv)
  zero:∀ r∈T,∀ i,i<k→at' r i=0
  pl:∃ ls,Pl 0 ls (S.map fv)∧∀ x∈ls,x<k
  bS:Bd (ss b S.length) S
  bT:Bd (bb b S.length) T
  cnt:S.length+T.length≤lot.length
  slen:S.length≤k
  lead:∀ r∈S,∃ l,(∀ i,i<l→at' r i=0)∧0<at' r l∧∃ j,j<S.length∧(at' r l).natAbs≤2 ^ bb b j
theorem PI.start {w b:Nat} {lot:List (List Int)} (hl:∀ r∈lot,r.length=w) (hb:Bd b lot):PI w b 0 lot [] lot :=
  ⟨fun r hr=>(nomatch hr),hl,by simpa using Eqv.refl (lot.map fv),fun r hr i hi=>absurd hi (Nat.not_lt_zero i),⟨[],trivial,fun x hx=>(nomatch hx)⟩,fun r hr=>(nomatch hr),hb,by simp,Nat.le_refl _,fun r hr=>(nomatch hr)⟩
theorem bb_le (b k:Nat):bb b k≤bb b (k+1):=by show _≤nb (bb b k);unfold nb;omega
theorem Bd.mono {b b':Nat} {rows:List (List Int)} (h:Bd b rows) (l:b≤b'):Bd b' rows:=fun r hr j=>Nat.le_trans (h r hr j) (Nat.pow_le_pow_right (by decide) l)
theorem PI.skip {w b k:Nat} {lot S T:List (List Int)} (h:PI w b k lot S T) (h0:∀ r∈T,at' r k=0):PI w b (k+1) lot S T:=by
  refine ⟨h.lenS,h.lenT,h.eqv,fun r hr i hi=>?_,let ⟨ls,p,q⟩:=h.pl;⟨ls,p,fun x hx=>Nat.lt_succ_of_lt (q x hx)⟩,h.bS,h.bT,h.cnt,Nat.le_succ_of_le h.slen,h.lead⟩
  rcases Nat.lt_or_ge i k with z | z
  · exact h.zero r hr i z
  · obtain rfl:i=k:=by omega
    exact h0 r hr
theorem PI.push {w b k:Nat} {lot S T T':List (List Int)} {r0:List Int} (h:PI w b k lot S T) (g:Gath w k (bb b S.length) (bb b (S.length+1)) T (r0::T')) (h0:at' r0 k≠0):PI w b (k+1) lot (stackZ S r0 k) T':=by
  have hsl:(stackZ S r0 k).length=S.length+1:=by simp [stackZ]
  have len0:r0.length=w:=g.len r0 List.mem_cons_self
  have lenL:(lineZ r0 k).length=w:=(lineZ_len r0 k).trans len0
  have zr:∀ r∈r0::T',∀ i,i<k→at' r i=0:=fun r hr i hi=>by
    have:Sp (T.map fv) (fv r):=(g.eqv _).mp (.of (List.mem_map_of_mem hr))
    exact this.at0 fun q hq=>by
      obtain ⟨t,ht,rfl⟩:=List.mem_map.mp hq
      exact h.zero t ht i hi
  have zl:∀ i,i<k→fv (lineZ r0 k) i=0:=fun i hi=>by
    have h1:=lineZ_abs r0 k i
    rw [zr r0 List.mem_cons_self i hi] at h1
    rw [fv_at];omega
  have pos:=lineZ_pos h0
  have lowLen:∀ a∈S,(lowZ a (lineZ r0 k) k).length=w:=fun a ha=>by unfold lowZ;rw [subZ_len ((h.lenS a ha).trans lenL.symm)];exact h.lenS a ha
  have mapS:(S.map fun a=>lowZ a (lineZ r0 k) k).map fv=(S.map fv).map (lowV (fv (lineZ r0 k)) k):=by
    rw [List.map_map,List.map_map]
    exact List.map_congr_left fun a ha=>fv_lowZ ((h.lenS a ha).trans lenL.symm)
  have mapE:(stackZ S r0 k).map fv=(S.map fv).map (lowV (fv (lineZ r0 k)) k)++[fv (lineZ r0 k)]:=by
    unfold stackZ;rw [List.map_append,mapS];rfl
  have atLow:∀ a∈S,∀ j,at' (lowZ a (lineZ r0 k) k) j=at' a j-(at' a k).fdiv (at' (lineZ r0 k) k)*at' (lineZ r0 k) j:=fun a ha j=>by
    unfold lowZ;exact at_subZ ((h.lenS a ha).trans lenL.symm) j
  refine ⟨?lenS,fun r hr=>g.len r (List.mem_cons_of_mem _ hr),?eqv,?zero,?pl,?bS,by rw [hsl];exact fun r hr=>g.bd r (List.mem_cons_of_mem _ hr),?cnt,by rw [hsl];exact Nat.succ_le_succ h.slen,?lead⟩
  case lenS =>
    intro r hr
    rcases List.mem_append.mp hr with hr | hr
    · obtain ⟨a,ha,rfl⟩:=List.mem_map.mp hr;exact lowLen a ha
    · rw [List.mem_singleton.mp hr];exact lenL
  case eqv =>
    refine Eqv.trans ?_ h.eqv
    rw [List.map_append,List.map_append,mapE]
    have e1:Eqv (S.map fv++(r0::T').map fv) (S.map fv++T.map fv):=Eqv.app (.refl _) g.eqv
    refine Eqv.trans ?_ e1
    refine .of (fun v hv=>?_) fun v hv=>?_
    · have s0:Sp (S.map fv++(r0::T').map fv) (fv (lineZ r0 k)):=lineZ_sp.mpr (.of (by simp))
      rcases List.mem_append.mp hv with hv | hv
      · rcases List.mem_append.mp hv with hv | hv
        · obtain ⟨u,hu,rfl⟩:=List.mem_map.mp hv
          exact Sp.axs (.of (List.mem_append_left _ hu)) _ s0
        · rw [List.mem_singleton.mp hv];exact s0
      · exact .of (List.mem_append_right _ (by simpa using .inr (by simpa using hv)))
    · have s0:Sp (List.map (lowV (fv (lineZ r0 k)) k) (S.map fv)++[fv (lineZ r0 k)]++T'.map fv) (fv (lineZ r0 k)):=.of (by simp)
      rcases List.mem_append.mp hv with hv | hv
      · have s1:Sp (List.map (lowV (fv (lineZ r0 k)) k) (S.map fv)++[fv (lineZ r0 k)]++T'.map fv) (lowV (fv (lineZ r0 k)) k v):=.of (List.mem_append_left _ (List.mem_append_left _ (List.mem_map_of_mem hv)))
        have e2:v=ax (lowV (fv (lineZ r0 k)) k v) ((v k).fdiv (fv (lineZ r0 k) k)) (fv (lineZ r0 k)):=by funext j;simp only [lowV,ax];grind
        rw [e2];exact s1.axs _ s0
      · rw [List.map_cons] at hv
        rcases List.mem_cons.mp hv with rfl | hv
        · exact lineZ_sp.mp s0
        · exact .of (List.mem_append_right _ hv)
  case zero =>
    intro r hr i hi
    rcases Nat.lt_or_ge i k with z | z
    · exact zr r (List.mem_cons_of_mem _ hr) i z
    · obtain rfl:i=k:=by omega
      exact g.tail r (by simpa using hr)
  case pl =>
    obtain ⟨ls,p,q⟩:=h.pl
    refine ⟨ls++[k],?_,fun x hx=>?_⟩
    · rw [mapE];exact p.snoc zl pos q (Nat.zero_le _)
    · rcases List.mem_append.mp hx with z | z
      · exact Nat.lt_succ_of_lt (q x z)
      · rw [List.mem_singleton.mp z];exact Nat.lt_succ_self k
  case bS =>
    rw [hsl]
    intro r hr j
    have hL:(at' (lineZ r0 k) j).natAbs≤2 ^ bb b (S.length+1):=by rw [lineZ_abs];exact g.bd r0 List.mem_cons_self j
    rcases List.mem_append.mp hr with hr | hr
    · obtain ⟨a,ha,rfl⟩:=List.mem_map.mp hr
      rw [atLow a ha]
      have h1:=h.bS a ha j
      have h2:=h.bS a ha k
      have h3:((at' a k).fdiv (at' (lineZ r0 k) k)).natAbs≤2 ^ ss b S.length:=by
        have hp:=pos
        have e:=Int.mul_fdiv_add_fmod (at' a k) (at' (lineZ r0 k) k)
        have f1:=Int.fmod_nonneg_of_pos (at' a k) hp
        have f2:=Int.fmod_lt_of_pos (at' a k) hp
        generalize at' a k=x at *
        generalize at' (lineZ r0 k) k=y at *
        have:(x.fdiv y).natAbs≤x.natAbs:=by
          rcases Int.lt_or_le (x.fdiv y) 0 with z | z
          · have g1:y*x.fdiv y≤1*x.fdiv y:=Int.mul_le_mul_of_nonpos_right (by omega) (by omega)
            rcases Int.lt_or_le x 0 with xz | xz
            · have g2:y*x.fdiv y+y≥x+1:=by omega
              have g3:y*(x.fdiv y+1)≤1*(x.fdiv y+1):=Int.mul_le_mul_of_nonpos_right (by omega) (by omega)
              have g4:y*(x.fdiv y+1)=y*x.fdiv y+y:=by rw [Int.mul_add,Int.mul_one]
              omega
            · have:=Int.fdiv_nonneg xz (show 0≤y by omega);omega
          · have g1:1*x.fdiv y≤y*x.fdiv y:=Int.mul_le_mul_of_nonneg_right (by omega) z
            omega
        omega
      have h4:((at' a k).fdiv (at' (lineZ r0 k) k)*at' (lineZ r0 k) j).natAbs≤2 ^ ss b S.length*2 ^ bb b (S.length+1):=by
        rw [Int.natAbs_mul];exact Nat.mul_le_mul h3 hL
      rw [← Nat.pow_add] at h4
      have h5:2 ^ ss b S.length≤2 ^ (ss b S.length+bb b (S.length+1)):=Nat.pow_le_pow_right (by decide) (by omega)
      have h6:2 ^ ss b (S.length+1)=2*2 ^ (ss b S.length+bb b (S.length+1)):=by
        show 2 ^ (ss b S.length+bb b (S.length+1)+1)=_
        rw [Nat.pow_succ];omega
      omega
    · rw [List.mem_singleton.mp hr]
      exact Nat.le_trans hL (Nat.pow_le_pow_right (by decide) (by show _≤ss b S.length+bb b (S.length+1)+1;omega))
  case cnt =>
    have h1:=h.cnt
    have h2:=g.cnt
    simp only [stackZ,List.length_append,List.length_map,List.length_cons,List.length_nil] at h2 ⊢
    omega
  case lead =>
    intro r hr
    rcases List.mem_append.mp hr with hr | hr
    · obtain ⟨a,ha,rfl⟩:=List.mem_map.mp hr
      obtain ⟨l,a1,a2,j,hj,a3⟩:=h.lead a ha
      obtain ⟨ls,p,q⟩:=h.pl
      have hl:l<k:=by
        have key:∀ {lo:Nat} {ls:List Nat} {P:List Vec},Pl lo ls P→(∀ x∈ls,x<k)→∀ v∈P,∃ x,x<k∧v x≠0:=by
          intro lo ls
          induction ls generalizing lo with
          | nil=>intro P hP _ v hv;cases P with
            | nil=>cases hv
            | cons=>exact hP.elim
          | cons x ls ih=>intro P hP hx v hv;cases P with
            | nil=>cases hv
            | cons r P =>
              rcases List.mem_cons.mp hv with rfl | hv
              · exact ⟨x,hx x List.mem_cons_self,by have:=hP.2.2.1;omega⟩
              · exact ih hP.2.2.2.2 (fun y hy=>hx y (List.mem_cons_of_mem _ hy)) v hv
        obtain ⟨x,hx,hne⟩:=key p q (fv a) (List.mem_map_of_mem ha)
        rcases Nat.lt_or_ge l k with z | z
        · exact z
        · exact absurd (a1 x (by omega)) hne
      have keep:∀ i,i<k→at' (lowZ a (lineZ r0 k) k) i=at' a i:=fun i hi=>by
        rw [atLow a ha]
        have:=zl i hi
        rw [fv_at] at this
        rw [this];omega
      refine ⟨l,fun i hi=>by rw [keep i (by omega)];exact a1 i hi,by rw [keep l hl];exact a2,j,by rw [hsl];exact Nat.lt_succ_of_lt hj,by rw [keep l hl];exact a3⟩
    · rw [List.mem_singleton.mp hr]
      refine ⟨k,zl,pos,S.length,by rw [hsl];exact Nat.lt_succ_self _,?_⟩
      rw [lineZ_abs]
      exact g.head r0 (by simp)
theorem PI.done {w b:Nat} {lot S T:List (List Int)} (h:PI w b w lot S T):IsPl w lot S:=by
  refine ⟨h.lenS,h.pl,Eqv.trans ?_ h.eqv⟩
  rw [List.map_append]
  refine .of (fun v hv=>.of (List.mem_append_left _ hv)) fun v hv=>?_
  rcases List.mem_append.mp hv with hv | hv
  · exact .of hv
  · obtain ⟨r,hr,rfl⟩:=List.mem_map.mp hv
    have e:fv r=zV:=by
      funext i
      rcases Nat.lt_or_ge i w with z | z
      · exact h.zero r hr i z
      · have:=h.lenT r hr
        simp [fv,zV,List.getD,List.getElem?_eq_none (show r.length≤i by omega)]
    rw [e];exact .zero
end La
set_option linter.all false
namespace La
theorem min_first (key:List Int→Nat):∀ (l:List (List Int)),l≠[]→∃ p rest,(p::rest).Perm l∧∀ r∈rest,key p≤key r
  | [],h=>absurd rfl h
  | [a],_=>⟨a,[],.refl _,fun r hr=>(nomatch hr)⟩
  | a::b::l,_=>by
    obtain ⟨p,rest,hp,hm⟩:=min_first key (b::l) (by simp)
    by_cases h:key a≤key p
    · refine ⟨a,p::rest,hp.cons a,fun r hr=>?_⟩
      rcases List.mem_cons.mp hr with rfl | hr
      · exact h
      · exact Nat.le_trans h (hm r hr)
    · refine ⟨p,a::rest,(List.Perm.swap a p rest).trans (hp.cons a),fun r hr=>?_⟩
      rcases List.mem_cons.mp hr with rfl | hr
      · omega
      · exact hm r hr
theorem gath_loop {w pl b:Nat} {rows:List (List Int)} (hw:pl<w):∀ (n:Nat) (busy clear:List (List Int)) (e f m R:Nat),busySum pl busy≤n→GI w pl rows.length e f m R (2 ^ nb b) rows busy clear→m≤2 ^ b→∃ out,Gath w pl b (nb b) rows out:=by
  intro n
  induction n with
  | zero =>
    intro busy clear e f m R hs gi hm
    have hb0:busy=[]:=by
      cases busy with
      | nil=>rfl
      | cons r t =>
        have:=gi.bz r List.mem_cons_self
        simp only [busySum,List.map_cons,List.sum_cons] at hs
        omega
    subst hb0
    exact ⟨_,gi.gath hm (Nat.zero_le _) rfl⟩
  | succ n ih =>
    intro busy clear e f m R hs gi hm
    by_cases h1:busy.length≤1
    · exact ⟨_,gi.gath hm h1 rfl⟩
    · obtain ⟨p,rest,hp,ho⟩:=min_first (fun r=>(at' r pl).natAbs) busy (by intro z;subst z;simp at h1)
      have gs:=gi.perm hp
      have hr:rest≠[]:=by
        intro z;subst z
        have:=hp.length_eq
        simp at this;omega
      obtain ⟨e',m',R',hm',gt⟩:=gs.turn hw ho hr
      have hf:=busySum_turn gs ho hr
      have hsum:=busySum_perm (pl:=pl) hp
      exact ih _ _ e' 0 m' R' (by omega) gt (Nat.le_trans hm' hm)
theorem gath_exists {w pl b:Nat} {rows:List (List Int)} (hw:pl<w) (hl:∀ r∈rows,r.length=w) (hb:Bd b rows):∃ out,Gath w pl b (nb b) rows out :=
  gath_loop hw _ _ _ _ _ _ _ (Nat.le_refl _) (GI.start hl hb) (Nat.le_refl _)
theorem Gath.head_ne {w pl b b':Nat} {rows out:List (List Int)} (g:Gath w pl b b' rows out) (h:¬ ∀ r∈rows,at' r pl=0):∃ r t,out=r::t∧at' r pl≠0:=by
  have bad:(∀ r∈out,at' r pl=0)→False:=fun z=>h fun r hr=>by
    have:Sp (out.map fv) (fv r):=(g.eqv _).mpr (.of (List.mem_map_of_mem hr))
    exact this.at0 fun q hq=>by
      obtain ⟨t,ht,rfl⟩:=List.mem_map.mp hq
      exact z t ht
  cases out with
  | nil=>exact (bad fun r hr=>(nomatch hr)).elim
  | cons r t =>
    refine ⟨r,t,rfl,fun z=>bad fun q hq=>?_⟩
    rcases List.mem_cons.mp hq with rfl | hq
    · exact z
    · exact g.tail q (by simpa using hq)
theorem PI.next {w b k:Nat} {lot S T:List (List Int)} (h:PI w b k lot S T) (hk:k<w):∃ S' T',PI w b (k+1) lot S' T':=by
  by_cases z:∀ r∈T,at' r k=0
  · exact ⟨S,T,h.skip z⟩
  · obtain ⟨out,g⟩:=gath_exists hk h.lenT h.bT
    obtain ⟨r,t,rfl,hr⟩:=g.head_ne z
    exact ⟨_,t,h.push g hr⟩
theorem PI.upto {w b:Nat} {lot:List (List Int)} (hl:∀ r∈lot,r.length=w) (hb:Bd b lot):∀ k,k≤w→∃ S T,PI w b k lot S T
  | 0,_=>⟨[],lot,PI.start hl hb⟩
  | k+1,hk=>by
    obtain ⟨S,T,h⟩:=PI.upto hl hb k (by omega)
    exact h.next (by omega)
theorem plain_exists {w b:Nat} {lot:List (List Int)} (hl:∀ r∈lot,r.length=w) (hb:Bd b lot):∃ P,IsPl w lot P∧P.length≤lot.length∧P.length≤w∧Bd (ss b P.length) P∧∀ r∈P,∃ l,(∀ i,i<l→at' r i=0)∧0<at' r l∧∃ j,j<P.length∧(at' r l).natAbs≤2 ^ bb b j:=by
  obtain ⟨S,T,h⟩:=PI.upto hl hb w (Nat.le_refl _)
  have:=h.cnt
  exact ⟨S,h.done,by omega,h.slen,h.bS,h.lead⟩
theorem Bd.of_mem {b:Nat} {rows:List (List Int)} (h:∀ r∈rows,∀ x∈r,x.natAbs≤2 ^ b):Bd b rows:=fun r hr j=>by
  by_cases hj:j<r.length
  · have e:at' r j=r[j]:=by simp [at',List.getD,List.getElem?_eq_getElem hj]
    rw [e];exact h r hr _ (List.getElem_mem hj)
  · have e:at' r j=0:=by simp [at',List.getD,List.getElem?_eq_none (show r.length≤j by omega)]
    rw [e];simp
theorem Bd.mem {b:Nat} {rows:List (List Int)} (h:Bd b rows) {r:List Int} (hr:r∈rows) {x:Int} (hx:x∈r):x.natAbs≤2 ^ b:=by
  obtain ⟨j,hj,e⟩:=List.mem_iff_getElem.mp hx
  have:=h r hr j
  have e2:at' r j=x:=by simp [at',List.getD,List.getElem?_eq_getElem hj,e]
  rwa [e2] at this
theorem IsPl.self {w:Nat} {rows P:List (List Int)} (h:IsPl w rows P):IsPl w P P:=⟨h.len,h.pl,Eqv.refl _⟩
end La
namespace La
end La
set_option linter.all false
namespace La
def leadZ:List Int→Nat
  | []=>0
  | a::r=>if a=0 then leadZ r+1 else 0
theorem leadZ_le:∀ r:List Int,leadZ r≤r.length
  | []=>Nat.le_refl _
  | a::r=>by
    unfold leadZ
    split
    · have:=leadZ_le r;simp;omega
    · exact Nat.zero_le _
theorem leadZ_zero:∀ (r:List Int) (i:Nat),i<leadZ r→at' r i=0
  | [],i,h=>by simp [leadZ] at h
  | a::r,i,h=>by
    unfold leadZ at h
    split at h
    · cases i with
      | zero=>simpa [at'] using ‹a=0›
      | succ i=>simpa [at'] using leadZ_zero r i (by omega)
    · omega
theorem leadZ_ne:∀ (r:List Int),leadZ r<r.length→at' r (leadZ r)≠0
  | [],h=>by simp at h
  | a::r,h=>by
    unfold leadZ at h ⊢
    split
    · rename_i z
      rw [if_pos z] at h
      simpa [at'] using leadZ_ne r (by simpa using h)
    · simpa [at'] using ‹¬ a=0›
theorem leadZ_uniq {r:List Int} {l:Nat} (h:l≤r.length) (h0:∀ i,i<l→at' r i=0) (h1:l<r.length→at' r l≠0):l=leadZ r:=by
  have a:=leadZ_le r
  rcases Nat.lt_trichotomy l (leadZ r) with z | z | z
  · exact absurd (leadZ_zero r l z) (h1 (by omega))
  · exact z
  · exact absurd (h0 _ z) (leadZ_ne r (by omega))
end La
set_option linter.all false
namespace La
def Ind:List Vec→Prop
  | []=>True
  | a::A=>(∀ k:Int,Sp A (fun j=>k*a j)→k=0)∧Ind A
theorem Ec.ind:∀ {lo:Nat} {ls:List Nat} {P:List Vec},Ec lo ls P→Ind P
  | _,[],[],_=>trivial
  | _,l::ls,r::P,⟨a,b,c,e⟩=>⟨fun k h=>by
      have z:=h.at0 (j:=l) fun q hq=>Ec.zero e q hq l (by omega)
      rcases Int.mul_eq_zero.mp z with z | z
      · exact z
      · omega,Ec.ind e⟩
  | _,[],_::_,h=>h.elim
  | _,_::_,[],h=>h.elim
theorem exch {p:Vec} {P:List Vec}:∀ {A:List Vec},Ind A→(∀ a∈A,Sp (p::P) a)→(∀ a∈A,Sp P a) ∨ ∃ (b:Vec) (k:Int),k≠0∧Sp A b∧Sp P (ax b k p)∧∃ A':List Vec,Ind A'∧(∀ a∈A',Sp P a)∧A'.length+1=A.length∧∀ a∈A',Sp A a
  | [],_,_=>.inl fun a ha=>(nomatch ha)
  | a::B,⟨i1,i2⟩,h=>by
    obtain ⟨k,hk⟩:=(h a List.mem_cons_self).cons
    rcases exch i2 fun q hq=>h q (List.mem_cons_of_mem _ hq) with hB | ⟨b,t,ht,sb,sp,B',iB,hB,lB,mB⟩
    · by_cases z:k=0
      · subst z
        refine .inl fun q hq=>?_
        rcases List.mem_cons.mp hq with rfl | hq
        · have e:ax q 0 p=q:=by funext j;simp [ax]
          rwa [e] at hk
        · exact hB q hq
      · exact .inr ⟨a,k,z,.of List.mem_cons_self,hk,B,i2,hB,rfl,fun q hq=>.of (List.mem_cons_of_mem _ hq)⟩
    · refine .inr ⟨b,t,ht,sb.mono fun q hq=>List.mem_cons_of_mem _ hq,sp,(fun j=>t*a j-k*b j)::B',⟨fun m hm=>?_,iB⟩,fun q hq=>?_,by simp [lB],fun q hq=>?_⟩
      · have h1:Sp B (fun j=>m*(t*a j-k*b j)):=hm.le mB
        have h2:Sp B (fun j=>(m*t)*a j):=by
          have:=h1.axs (m*k) sb
          have e:ax (fun j=>m*(t*a j-k*b j)) (m*k) b=fun j=>(m*t)*a j:=by funext j;simp only [ax];grind
          rwa [e] at this
        rcases Int.mul_eq_zero.mp (i1 _ h2) with z | z
        · exact z
        · exact absurd z ht
      · rcases List.mem_cons.mp hq with rfl | hq
        · have:=(hk.mul t).sub (sp.mul k)
          have e:(fun j=>t*ax a k p j-k*ax b t p j)=fun j=>t*a j-k*b j:=by funext j;simp only [ax];grind
          rwa [e] at this
        · exact hB q hq
      · rcases List.mem_cons.mp hq with rfl | hq
        · exact ((Sp.of List.mem_cons_self).mul t).sub ((sb.mono fun q hq=>List.mem_cons_of_mem _ hq).mul k)
        · exact (mB q hq).mono fun q hq=>List.mem_cons_of_mem _ hq
theorem Ind.le:∀ {P A:List Vec},Ind A→(∀ a∈A,Sp P a)→A.length≤P.length
  | [],[],_,_=>Nat.le_refl _
  | [],a::A,⟨h,_⟩,g=>by
    have z:=(g a List.mem_cons_self).nil
    have:=h 1 (by
      have e:(fun j=>1*a j)=zV:=by funext j;rw [z];simp [zV]
      rw [e];exact .zero)
    omega
  | p::P,A,i,g=>by
    rcases exch i g with h | ⟨b,k,hk,sb,sp,A',iA,hA,lA,mA⟩
    · have:=Ind.le i h
      simp;omega
    · have:=Ind.le iA hA
      simp;omega
theorem Ind.of_le {a:Vec} {A P:List Vec} (i:Ind A) (h:∀ r∈a::A,Sp P r) (hl:P.length≤A.length):∃ k:Int,k≠0∧Sp A (fun j=>k*a j):=by
  by_cases z:∃ k:Int,k≠0∧Sp A (fun j=>k*a j)
  · exact z
  · have:Ind (a::A):=⟨fun k hk=>by
      by_cases y:k=0
      · exact y
      · exact absurd ⟨k,y,hk⟩ z,i⟩
    have:=Ind.le this h
    simp at this;omega
theorem Ec.count {lo lo':Nat} {ls ls':List Nat} {P Q:List Vec} (h:Ec lo ls P) (g:Ec lo' ls' Q) (e:Eqv P Q):P.length=Q.length :=
  Nat.le_antisymm (h.ind.le fun r hr=>(e r).mp (.of hr)) (g.ind.le fun r hr=>(e r).mpr (.of hr))
theorem Ec.split (w:Nat):∀ {lo:Nat} {ls:List Nat} {P:List Vec},Ec lo ls P→∃ l1 l2 P1 P2,ls=l1++l2∧P=P1++P2∧l1.length=P1.length∧(∀ x∈l1,x<w)∧(∀ x∈l2,w≤x)∧∀ v,Sp P2 v↔Sp P v∧∀ i,i<w→v i=0
  | _,[],[],_=>⟨[],[],[],[],rfl,rfl,rfl,fun x hx=>(nomatch hx),fun x hx=>(nomatch hx),fun v=>⟨fun h=>⟨h,fun i _=>by rw [h.nil];rfl⟩,fun h=>h.1⟩⟩
  | lo,l::ls,r::P,e=>by
    by_cases z:l<w
    · obtain ⟨l1,l2,P1,P2,e1,e2,e3,e4,e5,e6⟩:=Ec.split w e.2.2.2
      refine ⟨l::l1,l2,r::P1,P2,by rw [e1];rfl,by rw [e2];rfl,by simp [e3],fun x hx=>?_,e5,fun v=>?_⟩
      · rcases List.mem_cons.mp hx with rfl | hx
        · exact z
        · exact e4 x hx
      · rw [e6 v,e.tail v]
        exact ⟨fun ⟨⟨a,b⟩,c⟩=>⟨a,c⟩,fun ⟨a,c⟩=>⟨⟨a,c l z⟩,c⟩⟩
    · have low:∀ {lo:Nat} {ls:List Nat} {P:List Vec},Ec lo ls P→∀ x∈ls,lo≤x:=by
        intro lo ls
        induction ls generalizing lo with
        | nil=>intro P _ x hx;cases hx
        | cons y ls ih=>intro P h x hx;cases P with
          | nil=>exact h.elim
          | cons q P =>
            rcases List.mem_cons.mp hx with rfl | hx
            · exact h.1
            · have:=ih h.2.2.2 x hx
              have:=h.1
              omega
      have ec:Ec l (l::ls) (r::P):=⟨Nat.le_refl _,e.2.1,e.2.2.1,e.2.2.2⟩
      refine ⟨[],l::ls,[],r::P,rfl,rfl,rfl,fun x hx=>(nomatch hx),fun x hx=>?_,fun v=>⟨fun h=>⟨h,fun i hi=>h.at0 fun q hq=>Ec.zero ec q hq i (by omega)⟩,fun h=>h.1⟩⟩
      have:=low ec x hx
      omega
  | _,[],_::_,h=>h.elim
  | _,_::_,[],h=>h.elim
theorem Ec.parts:∀ {l1 l2:List Nat} {lo:Nat} {P1 P2:List Vec},l1.length=P1.length→Ec lo (l1++l2) (P1++P2)→Ec lo l1 P1∧∃ lo',lo≤lo'∧Ec lo' l2 P2
  | [],_,lo,[],_,_,h=>⟨trivial,lo,Nat.le_refl _,h⟩
  | l::l1,l2,lo,r::P1,P2,hl,⟨a,b,c,d⟩=>by
    obtain ⟨h1,lo',h2,h3⟩:=Ec.parts (l1:=l1) (l2:=l2) (P1:=P1) (P2:=P2) (by simpa using hl) d
    exact ⟨⟨a,b,c,h1⟩,lo',by omega,h3⟩
  | [],_,_,_::_,_,hl,_=>by simp at hl
  | _::_,_,_,[],_,hl,_=>by simp at hl
theorem Red.drop:∀ {l1 l2:List Nat} {P1 P2:List Vec} {v:Vec},l1.length=P1.length→Red below v (l1++l2) (P1++P2)→Red below v l2 P2
  | [],_,[],_,_,_,h=>h
  | l::l1,l2,r::P1,P2,v,hl,⟨_,h⟩=>Red.drop (l1:=l1) (P1:=P1) (by simpa using hl) h
  | [],_,_::_,_,_,hl,_=>by simp at hl
  | _::_,_,[],_,_,hl,_=>by simp at hl
theorem Red.take:∀ {l1 l2:List Nat} {P1 P2:List Vec} {v:Vec},l1.length=P1.length→Red below v (l1++l2) (P1++P2)→Red below v l1 P1
  | [],_,[],_,_,_,h=>trivial
  | l::l1,l2,r::P1,P2,v,hl,⟨a,h⟩=>⟨a,Red.take (l1:=l1) (P1:=P1) (by simpa using hl) h⟩
  | [],_,_::_,_,_,hl,_=>by simp at hl
  | _::_,_,[],_,_,hl,_=>by simp at hl
theorem Pl.parts:∀ {l1 l2:List Nat} {lo:Nat} {P1 P2:List Vec},l1.length=P1.length→Pl lo (l1++l2) (P1++P2)→Pl lo l1 P1∧∃ lo',lo≤lo'∧Pl lo' l2 P2
  | [],_,lo,[],_,_,h=>⟨trivial,lo,Nat.le_refl _,h⟩
  | l::l1,l2,lo,r::P1,P2,hl,⟨a,b,c,rd,d⟩=>by
    obtain ⟨h1,lo',h2,h3⟩:=Pl.parts (l1:=l1) (l2:=l2) (P1:=P1) (P2:=P2) (by simpa using hl) d
    exact ⟨⟨a,b,c,Red.take (by simpa using hl) rd,h1⟩,lo',by omega,h3⟩
  | [],_,_,_::_,_,hl,_=>by simp at hl
  | _::_,_,_,[],_,hl,_=>by simp at hl
theorem Pl.mono:∀ {lo lo':Nat} {ls:List Nat} {P:List Vec},lo'≤lo→Pl lo ls P→Pl lo' ls P
  | _,_,[],[],_,_=>trivial
  | _,_,_::_,_::_,h,⟨a,b⟩=>⟨Nat.le_trans h a,b⟩
  | _,_,[],_::_,_,h=>h.elim
  | _,_,_::_,[],_,h=>h.elim
def csum:Nat→Vec→List Vec→Vec
  | _,_,[]=>zV
  | k,c,r::L=>fun j=>c k*r j+csum (k+1) c L j
theorem csum_congr:∀ {k:Nat} {c d:Vec} (L:List Vec),(∀ i,k≤i→i<k+L.length→c i=d i)→csum k c L=csum k d L
  | _,_,_,[],_=>rfl
  | k,c,d,r::L,h=>by
    unfold csum
    rw [h k (Nat.le_refl _) (by simp),csum_congr L fun i h1 h2=>h i (by omega) (by simp only [List.length_cons];omega)]
theorem csum_ax:∀ (k:Nat) (c d:Vec) (t:Int) (L:List Vec) (j:Nat),csum k (ax c t d) L j=csum k c L j+t*csum k d L j
  | _,_,_,_,[],j=>by simp [csum,zV]
  | k,c,d,t,r::L,j=>by
    simp only [csum]
    rw [csum_ax (k+1) c d t L j]
    simp only [ax];grind
theorem csum_zero:∀ (k:Nat) (c:Vec) (L:List Vec) (j:Nat),(∀ i,k≤i→i<k+L.length→c i=0)→csum k c L j=0
  | _,_,[],j,_=>rfl
  | k,c,r::L,j,h=>by
    simp only [csum]
    rw [h k (Nat.le_refl _) (by simp),csum_zero (k+1) c L j fun i h1 h2=>h i (by omega) (by simp only [List.length_cons];omega)]
    simp
theorem csum_sp:∀ (k:Nat) (c:Vec) (L:List Vec),Sp L (csum k c L)
  | _,_,[]=>.zero
  | k,c,r::L=>by
    have h:=(csum_sp (k+1) c L).mono (M:=r::L) fun q hq=>List.mem_cons_of_mem _ hq
    have e:csum k c (r::L)=ax (csum (k+1) c L) (c k) r:=by funext j;simp only [csum,ax];omega
    rw [e];exact .add _ _ _ List.mem_cons_self h
theorem sp_csum:∀ (k:Nat) {L:List Vec} {v:Vec},Sp L v→∃ c:Vec,v=csum k c L
  | k,[],v,h=>⟨zV,h.nil⟩
  | k,r::L,v,h=>by
    obtain ⟨t,ht⟩:=h.cons
    obtain ⟨c,hc⟩:=sp_csum (k+1) ht
    refine ⟨fun i=>if i=k then -t else c i,?_⟩
    have e:csum (k+1) (fun i=>if i=k then -t else c i) L=csum (k+1) c L:=csum_congr L fun i h1 _=>if_neg (by omega)
    funext j
    simp only [csum,e,if_true]
    have:=congrFun hc j
    simp only [ax] at this
    rw [← this,Int.neg_mul];omega
def aug1 (w k:Nat) (r:Vec):Vec:=fun j=>if j<w then r j else if j=w+k then 1 else 0
def augF (w:Nat):Nat→List Vec→List Vec
  | _,[]=>[]
  | k,r::L=>aug1 w k r::augF w (k+1) L
theorem augF_len (w:Nat):∀ (k:Nat) (L:List Vec),(augF w k L).length=L.length
  | _,[]=>rfl
  | k,_::L=>by simp [augF,augF_len w (k+1) L]
theorem augF_at0 {w j:Nat}:∀ {k:Nat} {L:List Vec},w≤j→(j<w+k∨w+k+L.length≤j)→∀ a∈augF w k L,a j=0
  | _,[],_,_,a,ha=>nomatch ha
  | k,r::L,h1,h2,a,ha=>by
    rw [List.length_cons] at h2
    rcases List.mem_cons.mp ha with rfl | ha
    · show (if j<w then r j else if j=w+k then 1 else 0)=0
      rw [if_neg (by omega),if_neg (by omega)]
    · exact augF_at0 (k:=k+1) (L:=L) h1 (by omega) a ha
theorem aug1_unit (w k:Nat) (r:Vec):aug1 w k r (w+k)=1:=by
  unfold aug1;rw [if_neg (by omega),if_pos rfl]
theorem augF_ind (w:Nat):∀ (k:Nat) (L:List Vec),Ind (augF w k L)
  | _,[]=>trivial
  | k,r::L=>⟨fun m h=>by
      have z:=h.at0 (j:=w+k) (augF_at0 (by omega) (.inl (by omega)))
      rw [aug1_unit] at z
      omega,augF_ind w (k+1) L⟩
theorem augF_sp {w:Nat}:∀ {k:Nat} {L:List Vec} {v:Vec},Sp (augF w k L) v↔(∀ j,j<w→v j=csum k (fun i=>v (w+i)) L j)∧∀ j,w≤j→(j<w+k∨w+k+L.length≤j)→v j=0
  | k,[],v=>by
    constructor
    · intro h
      have h:Sp [] v:=h
      rw [h.nil];exact ⟨fun _ _=>rfl,fun _ _ _=>rfl⟩
    · rintro ⟨h1,h2⟩
      have e:v=zV:=by
        funext j
        rcases Nat.lt_or_ge j w with z | z
        · exact h1 j z
        · exact h2 j z (by simp only [List.length_nil];omega)
      rw [e];exact .zero
  | k,r::L,v=>by
    have key:∀ t:Int,(∀ j,j<w→ax v t (aug1 w k r) j=csum (k+1) (fun i=>ax v t (aug1 w k r) (w+i)) L j) ↔ ∀ j,j<w→v j+t*r j=csum (k+1) (fun i=>v (w+i)) L j:=fun t=>by
      have e:csum (k+1) (fun i=>ax v t (aug1 w k r) (w+i)) L=csum (k+1) (fun i=>v (w+i)) L:=csum_congr L fun i h1 _=>by
        simp only [ax,aug1]
        rw [if_neg (by omega),if_neg (by omega)];omega
      rw [e]
      refine forall_congr' fun j=>⟨fun h hj=>?_,fun h hj=>?_⟩
      · have:=h hj
        simp only [ax,aug1,if_pos hj] at this
        exact this
      · simp only [ax,aug1,if_pos hj]
        exact h hj
    constructor
    · intro h
      obtain ⟨t,ht⟩:=Sp.cons h
      obtain ⟨h1,h2⟩:=augF_sp.mp ht
      have z:v (w+k)+t=0:=by
        have:=h2 (w+k) (by omega) (.inl (by omega))
        simp only [ax] at this
        rw [aug1_unit] at this
        omega
      refine ⟨fun j hj=>?_,fun j hj h3=>?_⟩
      · have:=(key t).mp h1 j hj
        simp only [csum]
        rw [← this,show v (w+k) = -t by omega,Int.neg_mul];omega
      · rw [List.length_cons] at h3
        have:=h2 j hj (by omega)
        simp only [ax,aug1] at this
        rw [if_neg (by omega),if_neg (by omega)] at this
        omega
    · rintro ⟨h1,h2⟩
      refine Sp.cons' (c:=-v (w+k)) (augF_sp.mpr ⟨(key _).mpr fun j hj=>?_,fun j hj h3=>?_⟩)
      · have:=h1 j hj
        simp only [csum] at this
        rw [this,Int.neg_mul];omega
      · simp only [ax,aug1]
        rw [if_neg (by omega)]
        by_cases z:j=w+k
        · rw [if_pos z,z];omega
        · rw [if_neg z,h2 j hj (by simp only [List.length_cons];omega)];omega
end La
set_option linter.all false
namespace La
def sh (w:Nat) (v:Vec):Vec:=fun i=>v (w+i)
def tr (w:Nat) (v:Vec):Vec:=fun j=>if j<w then v j else 0
structure Lin (f:Vec→Vec):Prop where
  zero:f zV=zV
  ax:∀ v c r,f (ax v c r)=ax (f v) c (f r)
theorem lin_sh (w:Nat):Lin (sh w):=⟨rfl,fun _ _ _=>rfl⟩
theorem lin_tr (w:Nat):Lin (tr w):=⟨by funext j;simp [tr,zV],fun v c r=>by funext j;simp only [tr,La.ax];split<;>omega⟩
theorem Sp.lin {f:Vec→Vec} (hf:Lin f) {L:List Vec} {v:Vec} (h:Sp L v):Sp (L.map f) (f v):=by
  induction h with
  | zero=>rw [hf.zero];exact .zero
  | add v r c hr _ ih=>rw [hf.ax];exact .add _ _ _ (List.mem_map_of_mem hr) ih
theorem Sp.lin_inv {f:Vec→Vec} (hf:Lin f) {L:List Vec} {u:Vec} (h:Sp (L.map f) u):∃ v,Sp L v∧u=f v:=by
  induction h with
  | zero=>exact ⟨zV,.zero,hf.zero.symm⟩
  | add v r c hr _ ih =>
    obtain ⟨q,hq,rfl⟩:=List.mem_map.mp hr
    obtain ⟨u,hu,rfl⟩:=ih
    exact ⟨_,.add _ _ _ hq hu,(hf.ax _ _ _).symm⟩
theorem Eqv.lin {f:Vec→Vec} (hf:Lin f) {L M:List Vec} (e:Eqv L M):Eqv (L.map f) (M.map f):=fun v =>
  ⟨fun h=>let ⟨u,hu,q⟩:=h.lin_inv hf;q ▸ ((e u).mp hu).lin hf,fun h=>let ⟨u,hu,q⟩:=h.lin_inv hf;q ▸ ((e u).mpr hu).lin hf⟩
theorem csum_out {w:Nat}:∀ (k:Nat) (c:Vec) (L:List Vec) (j:Nat),(∀ r∈L,r j=0)→csum k c L j=0
  | _,_,[],j,_=>rfl
  | k,c,r::L,j,h=>by
    simp only [csum]
    rw [h r List.mem_cons_self,csum_out (w:=w) (k+1) c L j fun q hq=>h q (List.mem_cons_of_mem _ hq)]
    simp
theorem red_sh {w:Nat} {v:Vec}:∀ {ls:List Nat} {P:List Vec},(∀ x∈ls,w≤x)→Red below v ls P→Red below (sh w v) (ls.map (· - w)) (P.map (sh w))
  | [],_,_,_=>by unfold Red;trivial
  | _::_,[],_,_=>by unfold Red;trivial
  | l::ls,r::P,h,⟨a,b⟩=>by
    have hw:=h l List.mem_cons_self
    refine ⟨?_,red_sh (fun x hx=>h x (List.mem_cons_of_mem _ hx)) b⟩
    show below (v (w+(l-w))) (r (w+(l-w)))
    rw [show w+(l-w)=l by omega];exact a
theorem Pl.sh {w:Nat}:∀ {lo:Nat} {ls:List Nat} {P:List Vec},(∀ x∈ls,w≤x)→Pl lo ls P→Pl (lo-w) (ls.map (· - w)) (P.map (sh w))
  | _,[],[],_,_=>trivial
  | lo,l::ls,r::P,h,⟨a,b,c,d,e⟩=>by
    have hw:=h l List.mem_cons_self
    have h':∀ x∈ls,w≤x:=fun x hx=>h x (List.mem_cons_of_mem _ hx)
    refine ⟨by show lo-w≤l-w;omega,fun i hi=>b (w+i) (by have:i<l-w:=hi;omega),?_,red_sh h' d,?_⟩
    · show 0<r (w+(l-w))
      rw [show w+(l-w)=l by omega];exact c
    · have:=Pl.sh h' e
      rw [show l+1-w=l-w+1 by omega] at this
      exact this
  | _,[],_::_,_,h=>h.elim
  | _,_::_,[],_,h=>h.elim
theorem red_tr {w:Nat} {v:Vec}:∀ {ls:List Nat} {P:List Vec},(∀ x∈ls,x<w)→Red below v ls P→Red below (tr w v) ls (P.map (tr w))
  | [],_,_,_=>by unfold Red;trivial
  | _::_,[],_,_=>by unfold Red;trivial
  | l::ls,r::P,h,⟨a,b⟩=>by
    have hw:=h l List.mem_cons_self
    refine ⟨?_,red_tr (fun x hx=>h x (List.mem_cons_of_mem _ hx)) b⟩
    show below (tr w v l) (tr w r l)
    unfold tr
    rw [if_pos hw,if_pos hw];exact a
theorem Pl.tr {w:Nat}:∀ {lo:Nat} {ls:List Nat} {P:List Vec},(∀ x∈ls,x<w)→Pl lo ls P→Pl lo ls (P.map (tr w))
  | _,[],[],_,_=>trivial
  | lo,l::ls,r::P,h,⟨a,b,c,d,e⟩=>by
    have hw:=h l List.mem_cons_self
    have h':∀ x∈ls,x<w:=fun x hx=>h x (List.mem_cons_of_mem _ hx)
    refine ⟨a,fun i hi=>?_,?_,red_tr h' d,Pl.tr h' e⟩
    · show (if i<w then r i else 0)=0
      rw [if_pos (by omega)];exact b i hi
    · show 0<(if l<w then r l else 0)
      rw [if_pos hw];exact c
  | _,[],_::_,_,h=>h.elim
  | _,_::_,[],_,h=>h.elim
theorem augF_tr {w:Nat}:∀ (k:Nat) (L:List Vec),(∀ r∈L,∀ j,w≤j→r j=0)→(augF w k L).map (tr w)=L
  | _,[],_=>rfl
  | k,r::L,h=>by
    simp only [augF,List.map_cons]
    rw [augF_tr (k+1) L fun q hq=>h q (List.mem_cons_of_mem _ hq)]
    congr 1
    funext j
    unfold tr aug1
    split
    · rfl
    · exact (h r List.mem_cons_self j (by omega)).symm
structure Ker (w:Nat) (L:List Vec) (l1 l2:List Nat) (P1 P2:List Vec):Prop where
  cnt:P1.length+P2.length=L.length
  len1:l1.length=P1.length
  lt:∀ x∈l1,x<w
  ge:∀ x∈l2,w≤x
  pl1:Pl 0 l1 (P1.map (tr w))
  eqv:Eqv (P1.map (tr w)) L
  how:∀ r∈P1,tr w r=csum 0 (sh w r) L
  pl2:Pl 0 (l2.map (· - w)) (P2.map (sh w))
  idle:∀ c,Sp (P2.map (sh w)) c↔(∀ j,csum 0 c L j=0)∧∀ i,L.length≤i→c i=0
theorem ker_of {w:Nat} {L:List Vec} {ls:List Nat} {P:List Vec} (hL:∀ r∈L,∀ j,w≤j→r j=0) (hp:Pl 0 ls P) (he:Eqv P (augF w 0 L)):∃ l1 l2 P1 P2,ls=l1++l2∧P=P1++P2∧Ker w L l1 l2 P1 P2:=by
  obtain ⟨l1,l2,P1,P2,e1,e2,e3,e4,e5,e6⟩:=hp.ec.split w
  subst e1 e2
  obtain ⟨p1,lo',_,p2⟩:=hp.parts e3
  have cnt:(P1++P2).length=L.length:=by
    rw [← augF_len w 0 L]
    exact Nat.le_antisymm (hp.ec.ind.le fun r hr=>(he r).mp (.of hr)) ((augF_ind w 0 L).le fun r hr=>(he r).mpr (.of hr))
  have z2:∀ r∈P2,∀ i,i<w→r i=0:=fun r hr=>((e6 r).mp (.of hr)).2
  refine ⟨l1,l2,P1,P2,rfl,rfl,by rw [← List.length_append];exact cnt,e3,e4,e5,p1.tr e4,?_,fun r hr=>?_,?_,fun c=>?_⟩
  ·
    have h1:Eqv ((P1++P2).map (tr w)) L:=by
      have:=he.lin (lin_tr w)
      rwa [augF_tr 0 L hL] at this
    refine Eqv.trans (.of (fun v hv=>.of (by rw [List.map_append];exact List.mem_append_left _ hv)) fun v hv=>?_) h1
    rw [List.map_append] at hv
    rcases List.mem_append.mp hv with hv | hv
    · exact .of hv
    · obtain ⟨r,hr,rfl⟩:=List.mem_map.mp hv
      have e:tr w r=zV:=by
        funext j
        unfold tr zV
        split
        · exact z2 r hr j ‹_›
        · rfl
      rw [e];exact .zero
  · have h1:=(augF_sp.mp ((he r).mp (.of (List.mem_append_left _ hr)))).1
    funext j
    unfold tr
    split
    · exact h1 j ‹_›
    · exact (csum_out (w:=w) 0 (sh w r) L j fun q hq=>hL q hq j (by omega)).symm
  · have:=p2.sh e5
    exact this.mono (Nat.zero_le _)
  · constructor
    · intro h
      obtain ⟨v,hv,rfl⟩:=h.lin_inv (lin_sh w)
      obtain ⟨g1,g2⟩:=(e6 v).mp hv
      obtain ⟨h1,h2⟩:=augF_sp.mp ((he v).mp g1)
      refine ⟨fun j=>?_,fun i hi=>h2 (w+i) (by omega) (.inr (by omega))⟩
      rcases Nat.lt_or_ge j w with z | z
      · have:=h1 j z
        rw [g2 j z] at this
        exact this.symm
      · exact csum_out (w:=w) 0 _ L j fun q hq=>hL q hq j z
    · rintro ⟨h1,h2⟩
      have hv:Sp P2 (fun j=>if j<w then 0 else c (j-w)):=by
        refine (e6 _).mpr ⟨(he _).mpr (augF_sp.mpr ⟨fun j hj=>?_,fun j hj h3=>?_⟩),fun i hi=>if_pos hi⟩
        · have e:(fun i=>if w+i<w then 0 else c (w+i-w))=c:=by
            funext i
            rw [if_neg (by omega),show w+i-w=i by omega]
          show (if j<w then 0 else c (j-w))=csum 0 (fun i=>if w+i<w then 0 else c (w+i-w)) L j
          rw [e,h1 j,if_pos hj]
        · show (if j<w then 0 else c (j-w))=0
          rw [if_neg (by omega)]
          exact h2 _ (by omega)
      have:=hv.lin (lin_sh w)
      have e:sh w (fun j=>if j<w then 0 else c (j-w))=c:=by
        funext i
        show (if w+i<w then 0 else c (w+i-w))=c i
        rw [if_neg (by omega),show w+i-w=i by omega]
      rwa [e] at this
def dot:Nat→Vec→Vec→Int
  | 0,_,_=>0
  | w+1,u,v=>dot w u v+u w*v w
theorem dot_comm:∀ (w:Nat) (u v:Vec),dot w u v=dot w v u
  | 0,_,_=>rfl
  | w+1,u,v=>by simp only [dot,dot_comm w u v,Int.mul_comm]
theorem dot_ax:∀ (w:Nat) (u v r:Vec) (c:Int),dot w (ax u c r) v=dot w u v+c*dot w r v
  | 0,_,_,_,_=>by simp [dot]
  | w+1,u,v,r,c=>by
    simp only [dot,dot_ax w u v r c,ax];grind
theorem dot_zero:∀ (w:Nat) (v:Vec),dot w zV v=0
  | 0,_=>rfl
  | w+1,v=>by simp [dot,dot_zero w v,zV]
theorem Sp.dot0 {w:Nat} {L:List Vec} {u v:Vec} (h:Sp L u) (hv:∀ r∈L,dot w r v=0):dot w u v=0:=by
  induction h with
  | zero=>exact dot_zero w v
  | add u r c hr _ ih=>rw [dot_ax,ih,hv r hr];omega
theorem dot_mul (w:Nat) (u v:Vec) (k:Int):dot w u (fun j=>k*v j)=k*dot w u v:=by
  induction w with
  | zero=>simp [dot]
  | succ w ih=>simp only [dot,ih];grind
def col (L:List Vec) (i:Nat):Vec:=fun j=>match L[j]? with
  | some r=>r i
  | none=>0
def cols (w:Nat) (L:List Vec):List Vec:=(List.range w).map (col L)
theorem cols_len (w:Nat) (L:List Vec):(cols w L).length=w:=by simp [cols]
theorem cols_out {w:Nat} {L:List Vec}:∀ r∈cols w L,∀ j,L.length≤j→r j=0:=fun r hr j hj=>by
  obtain ⟨i,_,rfl⟩:=List.mem_map.mp hr
  unfold col
  rw [List.getElem?_eq_none hj]
theorem csum_app:∀ (k:Nat) (c:Vec) (L M:List Vec) (j:Nat),csum k c (L++M) j=csum k c L j+csum (k+L.length) c M j
  | k,c,[],M,j=>by simp [csum,zV]
  | k,c,r::L,M,j=>by
    simp only [List.cons_append,csum,List.length_cons]
    rw [csum_app (k+1) c L M j,show k+1+L.length=k+(L.length+1) by omega]
    omega
theorem csum_cols (L:List Vec) (v:Vec) (j:Nat):∀ w,csum 0 v (cols w L) j=match L[j]? with | some r=>dot w r v | none=>0
  | 0=>by cases L[j]?<;>rfl
  | w+1=>by
    have e:cols (w+1) L=cols w L++[col L w]:=by unfold cols;rw [List.range_succ,List.map_append];rfl
    rw [e,csum_app,csum_cols L v j w,cols_len]
    simp only [csum,zV,Nat.zero_add,col]
    cases L[j]? with
    | none=>simp
    | some r=>simp only [dot,Int.mul_comm (v w)];omega
structure Lev (w:Nat) (L:List Vec) (ls:List Nat) (Q:List Vec):Prop where
  pl:Pl 0 ls Q
  just:∀ v,Sp Q v↔(∀ r∈L,dot w r v=0)∧∀ i,w≤i→v i=0
theorem level_cols {w:Nat} {L:List Vec} {v:Vec}:(∀ j,csum 0 v (cols w L) j=0) ↔ ∀ r∈L,dot w r v=0:=by
  constructor
  · intro h r hr
    obtain ⟨j,hj,e⟩:=List.mem_iff_getElem.mp hr
    have:=h j
    rw [csum_cols,List.getElem?_eq_getElem hj,e] at this
    exact this
  · intro h j
    rw [csum_cols]
    cases e:L[j]? with
    | none=>rfl
    | some r=>exact h r (List.mem_of_getElem? e)
theorem Ker.lev {w:Nat} {L:List Vec} {l1 l2:List Nat} {P1 P2:List Vec} (h:Ker L.length (cols w L) l1 l2 P1 P2):Lev w L (l2.map (· - L.length)) (P2.map (sh L.length)) :=
  ⟨h.pl2,fun v=>by rw [h.idle v,level_cols,cols_len]⟩
theorem Lev.congr {w:Nat} {L M:List Vec} {ls:List Nat} {Q:List Vec} (h:Lev w L ls Q) (e:Eqv L M):Lev w M ls Q :=
  ⟨h.pl,fun v=>by
    rw [h.just v]
    exact ⟨fun ⟨a,b⟩=>⟨fun r hr=>((e r).mpr (.of hr)).dot0 a,b⟩,fun ⟨a,b⟩=>⟨fun r hr=>((e r).mp (.of hr)).dot0 a,b⟩⟩⟩
theorem Sp.app_inv {Q P:List Vec} {v:Vec} (h:Sp (Q++P) v):∃ u,Sp Q u∧Sp P (fun j=>v j-u j):=by
  induction h with
  | zero => exact ⟨zV, .zero, by have e : (fun j => zV j - zV j) = zV := by funext j; simp [zV]
                                 rw [e];exact .zero⟩
  | add v r c hr _ ih =>
    obtain ⟨u,hu,hp⟩:=ih
    rcases List.mem_append.mp hr with hr | hr
    · refine ⟨ax u c r,.add _ _ _ hr hu,?_⟩
      have e:(fun j=>ax v c r j-ax u c r j)=fun j=>v j-u j:=by funext j;simp only [ax];omega
      rw [e];exact hp
    · refine ⟨u,hu,?_⟩
      have e:(fun j=>ax v c r j-u j)=ax (fun j=>v j-u j) c r:=by funext j;simp only [ax];omega
      rw [e];exact .add _ _ _ hr hp
theorem Ind.app:∀ {Q P:List Vec},Ind Q→Ind P→(∀ v,Sp Q v→Sp P v→v=zV)→Ind (Q++P)
  | [],_,_,iP,_=>iP
  | a::Q,P,⟨i1,i2⟩,iP,h=>⟨fun k hk=>by
      obtain ⟨u,hu,hp⟩:=Sp.app_inv hk
      have hq:Sp (a::Q) (fun j=>k*a j-u j):=((Sp.of List.mem_cons_self).mul k).sub (hu.mono fun q hq=>List.mem_cons_of_mem _ hq)
      have z:=sub_zV (h _ hq hp)
      rw [← z] at hu
      exact i1 k hu,Ind.app i2 iP fun v h1 h2=>h v (h1.mono fun q hq=>List.mem_cons_of_mem _ hq) h2⟩
theorem Ind.width {A:List Vec} {w:Nat} (i:Ind A) (h:∀ a∈A,∀ j,w≤j→a j=0):A.length≤w:=by
  have:=i.le (P:=augF 0 0 (List.replicate w zV)) fun a ha=>augF_sp.mpr ⟨fun j hj=>absurd hj (Nat.not_lt_zero j),fun j _ hj=>h a ha j (by simp at hj;omega)⟩
  rwa [augF_len,List.length_replicate] at this
theorem Ec.len_le {n:Nat}:∀ {lo:Nat} {ls:List Nat} {P:List Vec},Ec lo ls P→(∀ x∈ls,x<n)→P.length≤n-lo
  | _,[],[],_,_=>Nat.zero_le _
  | lo,l::ls,r::P,⟨a,_,_,e⟩,h=>by
    have h1:=h l List.mem_cons_self
    have:=Ec.len_le e fun x hx=>h x (List.mem_cons_of_mem _ hx)
    rw [List.length_cons];omega
  | _,[],_::_,h,_=>h.elim
  | _,_::_,[],h,_=>h.elim
theorem dot_self:∀ {w:Nat} {v:Vec},0≤dot w v v∧(dot w v v=0→∀ i,i<w→v i=0)
  | 0,v=>⟨Int.le_refl _,fun _ i hi=>absurd hi (Nat.not_lt_zero i)⟩
  | w+1,v=>by
    obtain ⟨h1,h2⟩:=dot_self (w:=w) (v:=v)
    have sq:0≤v w*v w:=by
      rcases Int.lt_or_le (v w) 0 with z | z
      · have:=Int.mul_pos_of_neg_of_neg z z;omega
      · exact Int.mul_nonneg z z
    refine ⟨by simp only [dot];omega,fun h i hi=>?_⟩
    simp only [dot] at h
    rcases Nat.lt_or_ge i w with z | z
    · exact h2 (by omega) i z
    · obtain rfl:i=w:=by omega
      rcases Int.mul_eq_zero.mp (show v i*v i=0 by omega) with z | z<;>exact z
theorem bd_exists:∀ (rows:List (List Int)),∃ b,∀ r∈rows,∀ x∈r,x.natAbs≤2 ^ b
  | []=>⟨0,fun r hr=>nomatch hr⟩
  | r::R=>by
    obtain ⟨b,hb⟩:=bd_exists R
    have one:∀ r:List Int,∃ b,∀ x∈r,x.natAbs≤2 ^ b:=by
      intro r
      induction r with
      | nil=>exact ⟨0,fun x hx=>nomatch hx⟩
      | cons a r ih =>
        obtain ⟨b,hb⟩:=ih
        refine ⟨a.natAbs+b,fun x hx=>?_⟩
        rcases List.mem_cons.mp hx with rfl | hx
        · exact Nat.le_trans (Nat.le_of_lt Nat.lt_two_pow_self) (Nat.pow_le_pow_right (by decide) (by omega))
        · exact Nat.le_trans (hb x hx) (Nat.pow_le_pow_right (by decide) (by omega))
    obtain ⟨c,hc⟩:=one r
    refine ⟨b+c,fun q hq x hx=>?_⟩
    rcases List.mem_cons.mp hq with rfl | hq
    · exact Nat.le_trans (hc x hx) (Nat.pow_le_pow_right (by decide) (by omega))
    · exact Nat.le_trans (hb q hq x hx) (Nat.pow_le_pow_right (by decide) (by omega))
theorem fv_range {n:Nat} {v:Vec} (h:∀ j,n≤j→v j=0):fv ((List.range n).map v)=v:=by
  funext j
  unfold fv
  rcases Nat.lt_or_ge j n with z | z
  · simp [List.getD,z]
  · rw [h j z];simp [List.getD,List.getElem?_eq_none (show ((List.range n).map v).length≤j by simp;exact z)]
theorem pl_exists {n:Nat} {L:List Vec} (h:∀ r∈L,∀ j,n≤j→r j=0):∃ ls P,Pl 0 ls P∧Eqv P L∧∀ x∈ls,x<n:=by
  obtain ⟨b,hb⟩:=bd_exists (L.map fun r=>(List.range n).map r)
  obtain ⟨P,hP,_⟩:=plain_exists (w:=n) (lot:=L.map fun r=>(List.range n).map r) (fun r hr=>by
    obtain ⟨q,_,rfl⟩:=List.mem_map.mp hr
    simp) (Bd.of_mem hb)
  obtain ⟨ls,p,q⟩:=hP.pl
  refine ⟨ls,P.map fv,p,?_,q⟩
  have e:(L.map fun r=>(List.range n).map r).map fv=L:=by
    rw [List.map_map]
    conv=>rhs;rw [← List.map_id L]
    exact List.map_congr_left fun r hr=>fv_range (h r hr)
  have:=hP.eqv
  rwa [e] at this
theorem Lev.count {w:Nat} {P:List Vec} {ls ls':List Nat} {Q:List Vec} (hp:Pl 0 ls P) (hw:∀ r∈P,∀ j,w≤j→r j=0) (h:Lev w P ls' Q):Q.length+P.length=w:=by
  have out:∀ a∈augF P.length 0 (cols w P),∀ j,P.length+w≤j→a j=0:=fun a ha j hj =>
    augF_at0 (by omega) (.inr (by rw [cols_len];omega)) a ha
  obtain ⟨l0,A,pA,eA,_⟩:=pl_exists out
  obtain ⟨l1,l2,P1,P2,e1,e2,K⟩:=ker_of cols_out pA eA
  have lv:=K.lev
  have same:Q=P2.map (sh P.length):=(h.pl.uniq lv.pl fun v=>(h.just v).trans (lv.just v).symm).1
  have c1:=K.cnt
  rw [cols_len] at c1
  have c2:P1.length≤P.length:=by
    have:=K.pl1.ec.len_le K.lt
    rwa [List.length_map,Nat.sub_zero] at this
  have lq:Q.length=P2.length:=by rw [same,List.length_map]
  have c3:(Q++P).length≤w:=by
    refine (h.pl.ec.ind.app hp.ec.ind fun v h1 h2=>?_).width fun a ha j hj=>?_
    · obtain ⟨g1,g2⟩:=(h.just v).mp h1
      have:=h2.dot0 g1
      funext i
      rcases Nat.lt_or_ge i w with z | z
      · exact dot_self.2 this i z
      · exact g2 i z
    · rcases List.mem_append.mp ha with z | z
      · exact ((h.just a).mp (.of z)).2 j hj
      · exact hw a z j hj
  rw [List.length_append] at c3
  omega
end La
set_option linter.all false
namespace La
def wt:List Nat→List Vec→Int
  | l::ls,r::P=>r l*wt ls P
  | _,_=>1
theorem Ec.leads:∀ {lo lo':Nat} {ls ls':List Nat} {P P':List Vec},Ec lo ls P→Ec lo' ls' P'→Eqv P P'→ls=ls'∧wt ls P=wt ls' P'
  | _,_,[],[],[],[],_,_,_=>⟨rfl,rfl⟩
  | _,_,[],l::ls,[],r::P,_,⟨a,b,c,e⟩,h=>by
    have:=((h r).mpr (.of List.mem_cons_self)).nil
    rw [this] at c;simp [zV] at c
  | _,_,l::ls,[],r::P,[],⟨a,b,c,e⟩,_,h=>by
    have:=((h r).mp (.of List.mem_cons_self)).nil
    rw [this] at c;simp [zV] at c
  | lo,lo',l::ls,l' :: ls',r::P,r' :: P',e,e',h=>by
    have f:=e'.first ((h r).mp (.of List.mem_cons_self))
    have f':=e.first ((h r').mpr (.of List.mem_cons_self))
    have hl:l=l':=by
      rcases Nat.lt_trichotomy l l' with q | q | q
      · have:=f.1 l q;have:=e.2.2.1;omega
      · exact q
      · have:=f'.1 l' q;have:=e'.2.2.1;omega
    subst hl
    obtain ⟨k,hk⟩:=f.2
    obtain ⟨m,hm⟩:=f'.2
    have hr:r l=r' l:=mul_pos_eq e.2.2.1 e'.2.2.1 hk hm
    have ht:Eqv P P':=fun v=>by rw [e.tail v,e'.tail v,h v]
    obtain ⟨rfl,g⟩:=Ec.leads e.2.2.2 e'.2.2.2 ht
    exact ⟨rfl,by simp only [wt,hr,g]⟩
  | _,_,[],_,_::_,_,h,_,_=>h.elim
  | _,_,_::_,_,[],_,h,_,_=>h.elim
  | _,_,_,[],_,_::_,_,h,_=>h.elim
  | _,_,_,_::_,_,[],_,h,_=>h.elim
def Qs:List Nat→List Vec→List Vec→List Nat→Prop
  | [],[],[],[]=>True
  | l::ls,m::M,n::N,q::qs=>0<q∧n l=(q:Int)*m l∧Qs ls M N qs
  | _,_,_,_=>False
def prodN:List Nat→Nat
  | []=>1
  | q::qs=>q*prodN qs
theorem Qs.wt:∀ {ls:List Nat} {M N:List Vec} {qs:List Nat},Qs ls M N qs→wt ls N=(prodN qs:Int)*wt ls M
  | [],[],[],[],_=>by simp [La.wt,prodN]
  | l::ls,m::M,n::N,q::qs,⟨_,h,g⟩=>by
    simp only [La.wt,prodN,h,Qs.wt g,Int.natCast_mul];grind
  | [],_::_,_,_,h=>h.elim
  | [],[],_::_,_,h=>h.elim
  | [],[],[],_::_,h=>h.elim
  | _::_,[],_,_,h=>h.elim
  | _::_,_::_,[],_,h=>h.elim
  | _::_,_::_,_::_,[],h=>h.elim
end La
set_option linter.all false
namespace La
theorem Pl.lead_eq {w lo l:Nat} {ls:List Nat} {r:List Int} {P:List (List Int)} (h:Pl lo (l::ls) ((r::P).map fv)) (hr:r.length=w) (hl:l<w):l=leadZ r:=by
  obtain ⟨_,h2,h3,_,_⟩:=h
  have pos:0<at' r l:=h3
  exact leadZ_uniq (by omega) (fun i hi=>h2 i hi) fun _=>by omega
theorem fdiv_le {x y:Int} (hp:0<y):(x.fdiv y).natAbs≤x.natAbs:=by
  have e:=Int.mul_fdiv_add_fmod x y
  have f1:=Int.fmod_nonneg_of_pos x hp
  have f2:=Int.fmod_lt_of_pos x hp
  rcases Int.lt_or_le (x.fdiv y) 0 with z | z
  · rcases Int.lt_or_le x 0 with xz | xz
    · have g3:y*(x.fdiv y+1)≤1*(x.fdiv y+1):=Int.mul_le_mul_of_nonpos_right (by omega) (by omega)
      have g4:y*(x.fdiv y+1)=y*x.fdiv y+y:=by rw [Int.mul_add,Int.mul_one]
      omega
    · have:=Int.fdiv_nonneg xz (show 0≤y by omega);omega
  · have g1:1*x.fdiv y≤y*x.fdiv y:=Int.mul_le_mul_of_nonneg_right (by omega) z
    omega
theorem red_at {w:Nat} {u:Vec}:∀ {lo:Nat} {ls:List Nat} {P:List (List Int)},Pl lo ls (P.map fv)→(∀ r∈P,r.length=w)→(∀ x∈ls,x<w)→Red below u ls (P.map fv)→∀ r∈P,0≤u (leadZ r)∧u (leadZ r)<at' r (leadZ r)∧leadZ r<w
  | _,[],[],_,_,_,_,r,hr=>nomatch hr
  | lo,l::ls,q::P,h,hl,hx,⟨a,b⟩,r,hr=>by
    rcases List.mem_cons.mp hr with rfl | hr
    · have lw:=hx l List.mem_cons_self
      rw [← h.lead_eq (hl r List.mem_cons_self) lw]
      exact ⟨a.1,a.2,lw⟩
    · exact red_at h.2.2.2.2 (fun q hq=>hl q (List.mem_cons_of_mem _ hq)) (fun x hx'=>hx x (List.mem_cons_of_mem _ hx')) b r hr
  | _,[],_::_,h,_,_,_,_,_=>h.elim
  | _,_::_,[],h,_,_,_,_,_=>h.elim
theorem csum_mul (k:Nat) (c:Vec) (t:Int) (L:List Vec) (j:Nat):csum k (fun i=>t*c i) L j=t*csum k c L j:=by
  have h:=csum_ax k zV c t L j
  have e:ax zV t c=fun i=>t*c i:=by funext i;simp [ax,zV]
  rw [e,csum_zero k zV L j fun _ _ _=>rfl] at h
  omega
end La
set_option linter.all false
namespace La
theorem at_app (r s:List Int) (j:Nat):at' (r++s) j=if j<r.length then at' r j else at' s (j-r.length):=by
  unfold at'
  simp only [List.getD]
  split
  · rw [List.getElem?_append_left ‹_›]
  · rw [List.getElem?_append_right (by omega)]
theorem at_out {r:List Int} {j:Nat} (h:r.length≤j):at' r j=0:=by
  simp [at',List.getD,List.getElem?_eq_none h]
theorem at_rep0 (n j:Nat):at' (List.replicate n 0) j=0:=by
  simp only [at',List.getD,List.getElem?_replicate]
  split<;>rfl
theorem fv_out {r:List Int} {w:Nat} (h:r.length=w):∀ j,w≤j→fv r j=0:=fun j hj=>at_out (by omega)
theorem fvs_out {rows:List (List Int)} {w:Nat} (h:∀ r∈rows,r.length=w):∀ r∈rows.map fv,∀ j,w≤j→r j=0:=fun r hr j hj=>by
  obtain ⟨q,hq,rfl⟩:=List.mem_map.mp hr
  exact fv_out (h q hq) j hj
def unitZ (m k:Nat):List Int:=List.replicate k 0++[1]++List.replicate (m-k-1) 0
theorem unitZ_len {m k:Nat} (h:k<m):(unitZ m k).length=m:=by simp [unitZ];omega
theorem at_unitZ (m k j:Nat):at' (unitZ m k) j=if j=k then 1 else 0:=by
  unfold unitZ
  rw [at_app]
  simp only [List.length_append,List.length_replicate,List.length_cons,List.length_nil]
  split
  · rw [at_app]
    simp only [List.length_replicate]
    split
    · rw [at_rep0,if_neg (by omega)]
    · rw [if_pos (by omega),show j-k=0 by omega];rfl
  · rw [at_rep0,if_neg (by omega)]
def ahead (w:Nat) (P:List (List Int)):List (List Int):=P.filter fun r=>decide (leadZ r<w)
def after (w:Nat) (P:List (List Int)):List (List Int):=P.filter fun r=>decide (w≤leadZ r)
theorem leads_of {n:Nat}:∀ {lo:Nat} {ls:List Nat} {P:List (List Int)},Pl lo ls (P.map fv)→(∀ r∈P,r.length=n)→(∀ x∈ls,x<n)→P.map leadZ=ls
  | _,[],[],_,_,_=>rfl
  | _,l::ls,r::P,h,hl,hx=>by
    have e:=Pl.lead_eq h (hl r List.mem_cons_self) (hx l List.mem_cons_self)
    rw [List.map_cons,leads_of h.2.2.2.2 (fun q hq=>hl q (List.mem_cons_of_mem _ hq)) fun x hx'=>hx x (List.mem_cons_of_mem _ hx'),e]
  | _,[],_::_,h,_,_=>h.elim
  | _,_::_,[],h,_,_=>h.elim
def pre (w:Nat) (c:Vec):Vec:=fun j=>if j<w then 0 else c (j-w)
def colZ (L:List (List Int)) (i:Nat):List Int:=L.map fun r=>at' r i
def uprZ (w:Nat) (L:List (List Int)):List (List Int):=(List.range w).map (colZ L)
theorem uprZ_len (w:Nat) (L:List (List Int)):(uprZ w L).length=w:=by simp [uprZ]
theorem uprZ_lens {w:Nat} {L:List (List Int)}:∀ r∈uprZ w L,r.length=L.length:=fun r hr=>by
  obtain ⟨i,_,rfl⟩:=List.mem_map.mp hr
  simp [colZ]
theorem at_colZ (L:List (List Int)) (i j:Nat):at' (colZ L i) j=match L[j]? with | some r=>at' r i | none=>0:=by
  simp only [at',colZ,List.getD,List.getElem?_map]
  cases L[j]?<;>rfl
theorem uprZ_fv (w:Nat) (L:List (List Int)):(uprZ w L).map fv=cols w (L.map fv):=by
  unfold uprZ cols
  rw [List.map_map]
  refine List.map_congr_left fun i _=>?_
  funext j
  show at' (colZ L i) j=col (L.map fv) i j
  rw [at_colZ]
  unfold col
  rw [List.getElem?_map]
  cases L[j]?<;>rfl
theorem uprZ_bd {w b:Nat} {L:List (List Int)} (h:Bd b L):Bd b (uprZ w L):=fun r hr j=>by
  obtain ⟨i,_,rfl⟩:=List.mem_map.mp hr
  rw [at_colZ]
  cases e:L[j]? with
  | none=>exact Nat.zero_le _
  | some q=>exact h q (List.mem_of_getElem? e) i
end La
set_option linter.all false
namespace La
theorem over_sp {M:Nat}:∀ {lo:Nat} {ls:List Nat} {P:List Vec} {u:Vec} (t:Nat),Pl lo ls P→Sp P u→Red (fun x y=>(x.natAbs:Int)≤t*y) u ls P→(∀ r∈P,∀ j,(r j).natAbs≤M)→∀ j,(u j).natAbs+t*M≤t*(2 ^ P.length*M)
  | _,[],[],u,t,_,h,_,_,j=>by rw [h.nil];simp [zV]
  | lo,l::ls,p::P,u,t,hp,h,⟨r1,r2⟩,hM,j=>by
    obtain ⟨a1,a2,a3,a4,a5⟩:=hp
    obtain ⟨c,hc⟩:=h.cons
    have z:ax u c p l=0:=hc.at0 fun r hr=>a5.ec.zero r hr l (Nat.lt_succ_self l)
    have z':u l = -(c*p l):=by unfold ax at z;omega
    have ct:c.natAbs≤t:=by
      have e:(u l).natAbs=c.natAbs*(p l).natAbs:=by rw [z',Int.natAbs_neg,Int.natAbs_mul]
      have e2:((p l).natAbs:Int)=p l:=Int.natAbs_of_nonneg (by omega)
      have r1':((c.natAbs*(p l).natAbs:Nat):Int)≤((t*(p l).natAbs:Nat):Int):=by
        rw [← e,Int.natCast_mul,e2];exact r1
      have:c.natAbs*(p l).natAbs≤t*(p l).natAbs:=by exact_mod_cast r1'
      exact Nat.le_of_mul_le_mul_right this (by omega)
    have red:Red (fun x y=>(x.natAbs:Int)≤((2*t:Nat):Int)*y) (ax u c p) ls P:=by
      clear h hc z z' r1 a5 hM
      induction ls generalizing P with
      | nil=>cases P<;>exact True.intro
      | cons m ls ih =>
        cases P with
        | nil=>exact True.intro
        | cons q P =>
          refine ⟨?_,ih P r2.2 a4.2⟩
          have h1:=r2.1
          have h2:=a4.1
          show ((u m+c*p m).natAbs:Int)≤((2*t:Nat):Int)*q m
          have h3:(u m+c*p m).natAbs≤(u m).natAbs+(c*p m).natAbs:=Int.natAbs_add_le _ _
          rw [Int.natAbs_mul] at h3
          have h4:c.natAbs*(p m).natAbs≤t*(p m).natAbs:=Nat.mul_le_mul_right _ ct
          have h5:t*(p m).natAbs≤t*(q m).natAbs:=Nat.mul_le_mul_left _ (by have:=h2.1;have:=h2.2;omega)
          have h6:((q m).natAbs:Int)=q m:=Int.natAbs_of_nonneg (by have:=h2.1;have:=h2.2;omega)
          have h7:((u m).natAbs:Int)≤((t*(q m).natAbs:Nat):Int):=by rw [Int.natCast_mul,h6];exact h1
          have h8:((2*t:Nat):Int)*q m=((2*(t*(q m).natAbs):Nat):Int):=by
            rw [← Nat.mul_assoc,Int.natCast_mul (2*t),h6]
          rw [h8]
          omega
    have ih:=over_sp (2*t) a5 hc red (fun r hr=>hM r (List.mem_cons_of_mem _ hr)) j
    have e0:u j=ax u c p j-c*p j:=by unfold ax;omega
    have h3:(u j).natAbs≤(ax u c p j).natAbs+(c*p j).natAbs:=by rw [e0];exact Int.natAbs_sub_le _ _
    rw [Int.natAbs_mul] at h3
    have h4:c.natAbs*(p j).natAbs≤t*M:=Nat.mul_le_mul ct (hM p List.mem_cons_self j)
    rw [List.length_cons]
    have e9:2*t*(2 ^ P.length*M)=t*(2 ^ (P.length+1)*M):=by
      rw [Nat.pow_succ];simp only [Nat.mul_assoc,Nat.mul_comm,Nat.mul_left_comm]
    rw [e9] at ih
    have e10:2*t*M=t*M+t*M:=by rw [Nat.mul_assoc,Nat.two_mul]
    omega
  | _,[],_::_,_,_,h,_,_,_,_=>h.elim
  | _,_::_,[],_,_,h,_,_,_,_=>h.elim
def Le:List Nat→List Vec→List Vec→Prop
  | l::ls,a::A,p::P=>a l≤p l∧Le ls A P
  | _,_,_=>True
theorem Ec.over:∀ {lo lo':Nat} {ls ls':List Nat} {P A:List Vec},Ec lo ls P→Ec lo' ls' A→(∀ v,Sp P v→Sp A v)→(∀ v,Sp A v→∃ k:Int,k≠0∧Sp P (fun j=>k*v j))→ls=ls'∧Le ls A P
  | _,_,[],[],[],[],_,_,_,_=>⟨rfl,trivial⟩
  | _,_,[],l::ls,[],r::A,_,⟨a,b,c,e⟩,_,h=>by
    obtain ⟨k,hk,hs⟩:=h r (.of List.mem_cons_self)
    have:=congrFun hs.nil l
    rcases Int.mul_eq_zero.mp this with z | z
    · exact absurd z hk
    · omega
  | _,_,l::ls,[],r::P,[],⟨a,b,c,e⟩,_,h,_=>by
    have:=(h r (.of List.mem_cons_self)).nil
    rw [this] at c;simp [zV] at c
  | lo,lo',l::ls,l' :: ls',r::P,r' :: A,e,e',h,g=>by
    have f:=e'.first (h r (.of List.mem_cons_self))
    obtain ⟨k,hk,hs⟩:=g r' (.of List.mem_cons_self)
    have f':=e.first hs
    have hl:l=l':=by
      rcases Nat.lt_trichotomy l l' with q | q | q
      · have:=f.1 l q;have:=e.2.2.1;omega
      · exact q
      · have:=f'.1 l' q
        rcases Int.mul_eq_zero.mp this with z | z
        · exact absurd z hk
        · have:=e'.2.2.1;omega
    subst hl
    obtain ⟨m,hm⟩:=f.2
    have p1:=e.2.2.1
    have p2:=e'.2.2.1
    have hm1:1≤m:=by
      rcases Int.lt_or_le m 1 with z | z
      · have:=Int.mul_nonneg (show 0 ≤ -m by omega) (show 0≤r' l by omega)
        rw [Int.neg_mul] at this
        omega
      · exact z
    have hle:r' l≤r l:=by
      rw [hm]
      have:=Int.mul_le_mul_of_nonneg_right hm1 (show 0≤r' l by omega)
      omega
    obtain ⟨rfl,q⟩:=Ec.over e.2.2.2 e'.2.2.2 (fun v hv=>(e'.tail v).mpr ⟨h v ((e.tail v).mp hv).1,((e.tail v).mp hv).2⟩) fun v hv=>by
      obtain ⟨h1,h2⟩:=(e'.tail v).mp hv
      obtain ⟨k,hk,hs⟩:=g v h1
      exact ⟨k,hk,(e.tail _).mpr ⟨hs,by rw [h2];simp⟩⟩
    exact ⟨rfl,hle,q⟩
  | _,_,[],_,_::_,_,h,_,_,_=>h.elim
  | _,_,_::_,_,[],_,h,_,_,_=>h.elim
  | _,_,_,[],_,_::_,_,h,_,_=>h.elim
  | _,_,_,_::_,_,[],_,h,_,_=>h.elim
theorem red_le {t:Nat} {v:Vec}:∀ {ls:List Nat} {A P:List Vec},Red below v ls A→Le ls A P→ls.length=A.length→Red (fun x y=>(x.natAbs:Int)≤((1:Nat):Int)*y) v ls P
  | [],_,_,_,_,_=>by unfold Red;trivial
  | l::ls,[],P,_,_,h=>by simp at h
  | l::ls,a::A,[],_,_,_=>by unfold Red;trivial
  | l::ls,a::A,p::P,⟨h1,h2⟩,⟨g1,g2⟩,hl=>⟨by
      show ((v l).natAbs:Int)≤((1:Nat):Int)*p l
      have:=h1.1
      have:=h1.2
      omega,red_le (t:=t) h2 g2 (by simpa using hl)⟩
theorem rows_le:∀ {lo:Nat} {ls:List Nat} {A P:List Vec},Pl lo ls A→Ec lo ls P→Le ls A P→∀ a∈A,Red (fun x y=>(x.natAbs:Int)≤((1:Nat):Int)*y) a ls P
  | lo,l::ls,b::A,p::P,⟨a1,a2,a3,a4,a5⟩,⟨_,_,e3,e4⟩,⟨g1,g2⟩,a,h=>by
    rcases List.mem_cons.mp h with rfl | h
    · exact ⟨by show ((a l).natAbs:Int)≤((1:Nat):Int)*p l;omega,red_le (t:=1) a4 g2 a5.ec.len⟩
    · have z:=a5.ec.zero a h l (Nat.lt_succ_self l)
      exact ⟨by show ((a l).natAbs:Int)≤((1:Nat):Int)*p l;rw [z];simp;omega,rows_le a5 e4 g2 a h⟩
  | _,_,[],_,_,_,_,_,h=>nomatch h
  | _,[],_::_,_,h,_,_,_,_=>h.elim
  | _,_::_,_::_,[],_,h,_,_,_=>h.elim
theorem Red.scale {k t:Nat} {v:Vec}:∀ {ls:List Nat} {P:List Vec},Red (fun x y=>(x.natAbs:Int)≤((1:Nat):Int)*y) v ls P→Red (fun x y=>(x.natAbs:Int)≤(k:Int)*y) (fun j=>(k:Int)*v j) ls P
  | [],_,_=>by unfold Red;trivial
  | _::_,[],_=>by unfold Red;trivial
  | l::ls,p::P,⟨h1,h2⟩=>⟨by
      show (((k:Int)*v l).natAbs:Int)≤(k:Int)*p l
      have h1':((v l).natAbs:Int)≤((1:Nat):Int)*p l:=h1
      rw [Int.natAbs_mul,Int.natAbs_natCast,Int.natCast_mul]
      exact Int.mul_le_mul_of_nonneg_left (by omega) (by omega),Red.scale (t:=t) h2⟩
end La
set_option linter.all false
namespace La
def lap (v:Vec) (f:List Nat→Int):List Nat→List Nat→Int
  | _,[]=>0
  | pr,j::js=>v j*f (pr++js)-lap v f (pr++[j]) js
def mi:List Vec→List Nat→Int
  | [],_=>1
  | v::vs,js=>lap v (mi vs) [] js
theorem lap_ax (v r:Vec) (c:Int) (f:List Nat→Int):∀ (js pr:List Nat),lap (ax v c r) f pr js=lap v f pr js+c*lap r f pr js
  | [],_=>by simp [lap]
  | j::js,pr=>by simp only [lap,ax,lap_ax v r c f js];grind
theorem lap_fun (v:Vec) {f g h:List Nat→Int} {c:Int} (e:∀ js,f js=g js+c*h js):∀ (js pr:List Nat),lap v f pr js=lap v g pr js+c*lap v h pr js
  | [],_=>by simp [lap]
  | j::js,pr=>by simp only [lap,e,lap_fun v e js];grind
theorem mi_ax (v r:Vec) (c:Int) (ys:List Vec):∀ (xs:List Vec) (js:List Nat),mi (xs++ax v c r::ys) js=mi (xs++v::ys) js+c*mi (xs++r::ys) js
  | [],js=>lap_ax v r c _ js []
  | x::xs,js=>lap_fun x (mi_ax v r c ys xs) js []
theorem lap_z (f:List Nat→Int):∀ (js pr:List Nat),lap zV f pr js=0
  | [],_=>rfl
  | j::js,pr=>by simp [lap,lap_z f js,zV]
theorem lap_f0 (v:Vec) {f:List Nat→Int} (e:∀ js,f js=0):∀ (js pr:List Nat),lap v f pr js=0
  | [],_=>rfl
  | j::js,pr=>by simp [lap,lap_f0 v e js,e]
theorem mi_z (ys:List Vec):∀ (xs:List Vec) (js:List Nat),mi (xs++zV::ys) js=0
  | [],js=>lap_z _ js []
  | x::xs,js=>lap_f0 x (mi_z ys xs) js []
def Dv (k:Nat) (L:List Vec) (d:Int):Prop:=∀ vs:List Vec,vs.length=k→(∀ v∈vs,v∈L)→∀ js:List Nat,js.length=k→d∣mi vs js
theorem Dv.sp {k:Nat} {L:List Vec} {d:Int} (h:Dv k L d):∀ (ys xs:List Vec),(xs++ys).length=k→(∀ v∈xs,v∈L)→(∀ v∈ys,Sp L v)→∀ js:List Nat,js.length=k→d∣mi (xs++ys) js
  | [],xs,hk,hx,_,js,hj=>h _ hk (fun v hv=>hx v (by simpa using hv)) js hj
  | y::ys,xs,hk,hx,hy,js,hj=>by
    have hy0:=hy y List.mem_cons_self
    clear hy0
    have key:∀ u,Sp L u→d∣mi (xs++u::ys) js:=fun u hu=>by
      induction hu with
      | zero=>rw [mi_z];exact Int.dvd_zero _
      | add v r c hr _ ih =>
        rw [mi_ax]
        have h2:=Dv.sp h ys (xs++[r]) (by simp at hk ⊢;omega) (fun q hq=>by
          rcases List.mem_append.mp hq with z | z
          · exact hx q z
          · rw [List.mem_singleton.mp z];exact hr) (fun q hq=>hy q (List.mem_cons_of_mem _ hq)) js hj
        rw [List.append_assoc,List.singleton_append] at h2
        exact Int.dvd_add ih (Int.dvd_trans h2 (Int.dvd_mul_left _ _))
    exact key y (hy y List.mem_cons_self)
theorem Dv.mono {k:Nat} {L M:List Vec} {d:Int} (h:Dv k L d) (hM:∀ r∈M,Sp L r):Dv k M d:=fun vs hk hv js hj =>
  h.sp vs [] hk (fun v hv=>nomatch hv) (fun v h=>hM v (hv v h)) js hj
theorem Dv.congr {k:Nat} {L M:List Vec} {d:Int} (e:Eqv L M):Dv k L d↔Dv k M d :=
  ⟨fun h=>h.mono fun r hr=>(e r).mpr (.of hr),fun h=>h.mono fun r hr=>(e r).mp (.of hr)⟩
theorem mi_t1 (M:Nat→Vec) (i1 j1:Nat):mi [fun j=>M j i1] [j1]=mi [M j1] [i1]:=by simp [mi,lap]
theorem mi_t2 (M:Nat→Vec) (i1 i2 j1 j2:Nat):mi [fun j=>M j i1,fun j=>M j i2] [j1,j2]=mi [M j1,M j2] [i1,i2]:=by
  simp only [mi,lap,List.nil_append,List.cons_append];grind
theorem mi_t3 (M:Nat→Vec) (i1 i2 i3 j1 j2 j3:Nat):mi [fun j=>M j i1,fun j=>M j i2,fun j=>M j i3] [j1,j2,j3]=mi [M j1,M j2,M j3] [i1,i2,i3]:=by
  simp only [mi,lap,List.nil_append,List.cons_append];grind
theorem mi_t4 (M:Nat→Vec) (i1 i2 i3 i4 j1 j2 j3 j4:Nat):mi [fun j=>M j i1,fun j=>M j i2,fun j=>M j i3,fun j=>M j i4] [j1,j2,j3,j4]=mi [M j1,M j2,M j3,M j4] [i1,i2,i3,i4]:=by
  simp only [mi,lap,List.nil_append,List.cons_append];grind
theorem mi_t (M:Nat→Vec):∀ (is js:List Nat),is.length=js.length→is.length≤4→mi (is.map fun i j=>M j i) js=mi (js.map M) is
  | [],[],_,_=>rfl
  | [a],[b],_,_=>mi_t1 M a b
  | [a,b],[c,d],_,_=>mi_t2 M a b c d
  | [a,b,c],[d,e,f],_,_=>mi_t3 M a b c d e f
  | [a,b,c,d],[e,f,g,h],_,_=>mi_t4 M a b c d e f g h
  | _::_::_::_::_::_,_,_,h=>by simp at h
  | [],_::_,h,_=>by simp at h
  | [_],[],h,_=>by simp at h
  | [_],_::_::_,h,_=>by simp at h
  | [_,_],[],h,_=>by simp at h
  | [_,_],[_],h,_=>by simp at h
  | [_,_],_::_::_::_,h,_=>by simp at h
  | [_,_,_],[],h,_=>by simp at h
  | [_,_,_],[_],h,_=>by simp at h
  | [_,_,_],[_,_],h,_=>by simp at h
  | [_,_,_],_::_::_::_::_,h,_=>by simp at h
  | [_,_,_,_],[],h,_=>by simp at h
  | [_,_,_,_],[_],h,_=>by simp at h
  | [_,_,_,_],[_,_],h,_=>by simp at h
  | [_,_,_,_],[_,_,_],h,_=>by simp at h
  | [_,_,_,_],_::_::_::_::_::_,h,_=>by simp at h
def rw' (L:List Vec) (j:Nat):Vec:=L.getD j zV
theorem col_rw (L:List Vec) (i:Nat):col L i=fun j=>rw' L j i:=by
  funext j
  unfold col rw'
  rw [List.getD]
  cases L[j]?<;>rfl
theorem mem_ix:∀ (L vs:List Vec),(∀ v∈vs,v∈L)→∃ js:List Nat,js.length=vs.length∧vs=js.map (rw' L)∧∀ j∈js,j<L.length
  | L,[],_=>⟨[],rfl,rfl,fun j hj=>nomatch hj⟩
  | L,v::vs,h=>by
    obtain ⟨js,h1,h2,h3⟩:=mem_ix L vs fun q hq=>h q (List.mem_cons_of_mem _ hq)
    obtain ⟨j,hj,e⟩:=List.mem_iff_getElem.mp (h v List.mem_cons_self)
    refine ⟨j::js,by simp [h1],?_,fun k hk=>?_⟩
    · rw [List.map_cons,← h2]
      congr 1
      simp [rw',List.getD,List.getElem?_eq_getElem hj,e]
    · rcases List.mem_cons.mp hk with rfl | hk
      · exact hj
      · exact h3 k hk
theorem mem_ix_cols:∀ (w:Nat) (L vs:List Vec),(∀ v∈vs,v∈cols w L)→∃ is:List Nat,is.length=vs.length∧vs=is.map (fun i j=>rw' L j i)∧∀ i∈is,i<w
  | w,L,[],_=>⟨[],rfl,rfl,fun j hj=>nomatch hj⟩
  | w,L,v::vs,h=>by
    obtain ⟨js,h1,h2,h3⟩:=mem_ix_cols w L vs fun q hq=>h q (List.mem_cons_of_mem _ hq)
    obtain ⟨i,hi,e⟩:=List.mem_map.mp (h v List.mem_cons_self)
    refine ⟨i::js,by simp [h1],?_,fun k hk=>?_⟩
    · rw [List.map_cons,← h2,← col_rw L i,e]
    · rcases List.mem_cons.mp hk with rfl | hk
      · exact List.mem_range.mp hi
      · exact h3 k hk
theorem mi_has_z:∀ {vs:List Vec} (js:List Nat),zV∈vs→mi vs js=0:=fun {vs} js h=>by
  obtain ⟨xs,ys,rfl⟩:=List.append_of_mem h
  exact mi_z ys xs js
theorem Dv.turn {k w:Nat} {L:List Vec} {d:Int} (hk:k≤4) (hw:∀ r∈L,∀ j,w≤j→r j=0):Dv k (cols w L) d↔Dv k L d:=by
  constructor
  · intro h vs hl hv is hi
    obtain ⟨js,j1,j2,j3⟩:=mem_ix L vs hv
    rw [j2,← mi_t (rw' L) is js (by omega) (by omega)]
    by_cases hz:∀ i∈is,i<w
    · refine h _ (by simp [hi]) (fun v hv=>?_) js (by omega)
      obtain ⟨i,hi',rfl⟩:=List.mem_map.mp hv
      rw [← col_rw]
      exact List.mem_map_of_mem (List.mem_range.mpr (hz i hi'))
    · have ⟨i,hi1,hi2⟩:∃ i,i∈is∧w≤i:=by
        refine Classical.byContradiction fun hn=>hz fun i hi=>?_
        rcases Nat.lt_or_ge i w with z | z
        · exact z
        · exact absurd ⟨i,hi,z⟩ hn
      have e:(fun j=>rw' L j i)=zV:=by
        funext j
        unfold rw' zV
        rw [List.getD]
        cases e:L[j]? with
        | none=>rfl
        | some r=>exact hw r (List.mem_of_getElem? e) i hi2
      rw [mi_has_z js (by rw [← e];exact List.mem_map_of_mem (f:=fun i j=>rw' L j i) hi1)]
      exact Int.dvd_zero _
  · intro h vs hl hv js hj
    obtain ⟨is,i1,i2,i3⟩:=mem_ix_cols w L vs hv
    rw [i2,mi_t (rw' L) is js (by omega) (by omega)]
    by_cases hz:∀ j∈js,j<L.length
    · refine h _ (by simp [hj]) (fun v hv=>?_) is (by omega)
      obtain ⟨j,hj',rfl⟩:=List.mem_map.mp hv
      have:=hz j hj'
      unfold rw'
      rw [List.getD,List.getElem?_eq_getElem this]
      exact List.getElem_mem this
    · have ⟨j,hj1,hj2⟩:∃ j,j∈js∧L.length≤j:=by
        refine Classical.byContradiction fun hn=>hz fun i hi=>?_
        rcases Nat.lt_or_ge i L.length with z | z
        · exact z
        · exact absurd ⟨i,hi,z⟩ hn
      have e:rw' L j=zV:=by
        unfold rw'
        rw [List.getD,List.getElem?_eq_none hj2];rfl
      rw [mi_has_z is (by rw [← e];exact List.mem_map_of_mem hj1)]
      exact Int.dvd_zero _
end La
set_option linter.all false
namespace La
theorem mi_dup2 (v w:Vec) (a:Nat):mi [v,w] [a,a]=0:=by simp only [mi,lap,List.nil_append,List.cons_append];grind
theorem mi_dup3 (u v w:Vec) (a b c:Nat) (h:a=b∨a=c∨b=c):mi [u,v,w] [a,b,c]=0:=by
  rcases h with rfl | rfl | rfl<;>(simp only [mi,lap,List.nil_append,List.cons_append];grind)
theorem mi_dup4 (t u v w:Vec) (a b c d:Nat) (h:a=b∨a=c∨a=d∨b=c∨b=d∨c=d):mi [t,u,v,w] [a,b,c,d]=0:=by
  rcases h with rfl | rfl | rfl | rfl | rfl | rfl<;>(simp only [mi,lap,List.nil_append,List.cons_append];grind)
theorem mi_dup:∀ (vs:List Vec) (js:List Nat),vs.length=js.length→js.length≤4→¬ js.Nodup→mi vs js=0
  | _,[],_,_,h=>by simp at h
  | _,[_],_,_,h=>by simp at h
  | [v,w],[a,b],_,_,h=>by
    have:a=b:=by
      refine Classical.byContradiction fun hn=>h ?_
      simp [hn]
    subst this
    exact mi_dup2 v w a
  | [u,v,w],[a,b,c],_,_,h=>mi_dup3 u v w a b c (by
      refine Classical.byContradiction fun hn=>h ?_
      simp only [not_or] at hn
      simp [hn])
  | [t,u,v,w],[a,b,c,d],_,_,h=>mi_dup4 t u v w a b c d (by
      refine Classical.byContradiction fun hn=>h ?_
      simp only [not_or] at hn
      simp [hn])
  | _,_::_::_::_::_::_,_,h,_=>by simp at h
  | [],_::_,h,_,_=>by simp at h
  | [_],_::_::_,h,_,_=>by simp at h
  | [_,_],_::_::_::_,h,_,_=>by simp at h
  | [_,_,_],[_,_],h,_,_=>by simp at h
  | [_,_,_],_::_::_::_::_,h,_,_=>by simp at h
  | _::_::_::_::_,[_,_],h,_,_=>by simp at h
  | _::_::_::_::_,[_,_,_],h,_,_=>by simp at h
  | _::_::_::_::_::_,[_,_,_,_],h,_,_=>by simp at h
def un (q:Nat × Int):Vec:=fun j=>if j=q.1 then q.2 else 0
def prod:List Int→Int
  | []=>1
  | a::t=>a*prod t
theorem prod_app:∀ (s t:List Int),prod (s++t)=prod s*prod t
  | [],t=>by simp [prod]
  | a::s,t=>by simp only [List.cons_append,prod,prod_app s t,Int.mul_assoc]
theorem lap_un0 {q:Nat × Int} {f:List Nat→Int}:∀ {js:List Nat} (pr:List Nat),q.1∉js→lap (un q) f pr js=0
  | [],_,_=>rfl
  | j::js,pr,h=>by
    have h1:j≠q.1:=fun e=>h (e ▸ List.mem_cons_self)
    simp only [lap]
    rw [lap_un0 (pr++[j]) fun e=>h (List.mem_cons_of_mem _ e)]
    simp [un,h1]
theorem lap_un {q:Nat × Int} {f:List Nat→Int}:∀ {js:List Nat} (pr:List Nat),js.Nodup→q.1∈js→∃ s:Int,(s=1∨s = -1)∧lap (un q) f pr js=s*(q.2*f (pr++js.erase q.1))
  | [],_,_,h=>nomatch h
  | j::js,pr,nd,h=>by
    by_cases e:j=q.1
    · subst e
      refine ⟨1,.inl rfl,?_⟩
      simp only [lap]
      rw [lap_un0 _ (List.nodup_cons.mp nd).1,List.erase_cons_head]
      simp [un]
    · obtain ⟨s,hs,e2⟩:=lap_un (f:=f) (pr++[j]) (List.nodup_cons.mp nd).2 (by
        rcases List.mem_cons.mp h with z | z
        · exact absurd z.symm e
        · exact z)
      refine ⟨-s,by rcases hs with rfl | rfl<;>simp,?_⟩
      simp only [lap]
      rw [e2,List.erase_cons_tail (by simpa using e),List.append_assoc,List.singleton_append]
      simp only [un,if_neg e,Int.zero_mul,Int.neg_mul]
      omega
theorem mi_un:∀ (qs:List (Nat × Int)) (js:List Nat),js.Nodup→qs.length=js.length→mi (qs.map un) js=0∨((qs.map Prod.fst).Nodup∧(∀ q∈qs,q.1∈js)∧∃ s:Int,(s=1∨s = -1)∧mi (qs.map un) js=s*prod (qs.map Prod.snd))
  | [],js,_,_=>.inr ⟨List.nodup_nil,fun q hq=>(nomatch hq),1,.inl rfl,by simp [mi,prod]⟩
  | q::qs,js,nd,hl=>by
    by_cases h:q.1∈js
    · obtain ⟨s,hs,e⟩:=lap_un (f:=mi (qs.map un)) [] nd h
      rw [List.nil_append] at e
      rcases mi_un qs (js.erase q.1) (nd.erase _) (by rw [List.length_erase_of_mem h];simp at hl;omega) with z | ⟨h1,h2,s',hs',e'⟩
      · exact .inl (by show lap (un q) (mi (qs.map un)) [] js=0;rw [e,z];simp)
      · refine .inr ⟨?_,fun r hr=>?_,s*s',?_,?_⟩
        · rw [List.map_cons]
          refine List.nodup_cons.mpr ⟨fun hm=>?_,h1⟩
          obtain ⟨r,hr,er⟩:=List.mem_map.mp hm
          have:=h2 r hr
          rw [er] at this
          exact (List.Nodup.not_mem_erase nd) this
        · rcases List.mem_cons.mp hr with rfl | hr
          · exact h
          · exact List.mem_of_mem_erase (h2 r hr)
        · rcases hs with rfl | rfl<;>rcases hs' with rfl | rfl<;>simp
        · show lap (un q) (mi (qs.map un)) [] js=_
          rw [e,e',List.map_cons]
          simp only [prod]
          grind
    · exact .inl (lap_un0 [] h)
theorem mi_diag:∀ (qs:List (Nat × Int)),(qs.map Prod.fst).Nodup→mi (qs.map un) (qs.map Prod.fst)=prod (qs.map Prod.snd)
  | [],_=>rfl
  | q::qs,h=>by
    rw [List.map_cons] at h
    have h':=List.nodup_cons.mp h
    show lap (un q) (mi (qs.map un)) [] (q.1::qs.map Prod.fst)=_
    simp only [lap,List.nil_append]
    rw [lap_un0 _ h'.1,mi_diag qs h'.2]
    simp [un,prod]
def Pk:List Int→Nat→Int→Int→Prop
  | _,0,c,d=>d∣c
  | [],_+1,_,_=>True
  | a::t,k+1,c,d=>Pk t k (c*a) d∧Pk t (k+1) c d
theorem Pk.zero {t:List Int} {c d:Int}:Pk t 0 c d↔d∣c:=by cases t<;>exact Iff.rfl
theorem Pk.lin:∀ {t:List Int} {k:Nat} {c c' d:Int} (x y:Int),Pk t k c d→Pk t k c' d→Pk t k (x*c+y*c') d
  | t,0,c,c',d,x,y,h,g=>Pk.zero.mpr (Int.dvd_add (Int.dvd_trans (Pk.zero.mp h) (Int.dvd_mul_left _ _)) (Int.dvd_trans (Pk.zero.mp g) (Int.dvd_mul_left _ _)))
  | [],k+1,_,_,_,_,_,_,_=>trivial
  | a::t,k+1,c,c',d,x,y,h,g=>⟨by
      have:=Pk.lin x y h.1 g.1
      have e:x*(c*a)+y*(c' * a)=(x*c+y*c')*a:=by grind
      rwa [e] at this,Pk.lin x y h.2 g.2⟩
theorem Pk.mulc {t:List Int} {k:Nat} {c d:Int} (x:Int) (h:Pk t k c d):Pk t k (x*c) d:=by
  have:=Pk.lin x 0 h h
  rwa [Int.zero_mul,Int.add_zero] at this
theorem Pk.two {a b:Int} {t:List Int} {k:Nat} {c d:Int}:Pk (a::b::t) (k+2) c d↔Pk t k (c*a*b) d∧Pk t (k+1) (c*a) d∧Pk t (k+1) (c*b) d∧Pk t (k+2) c d :=
  ⟨fun ⟨⟨h1,h2⟩,h3,h4⟩=>⟨h1,h2,h3,h4⟩,fun ⟨h1,h2,h3,h4⟩=>⟨⟨h1,h2⟩,h3,h4⟩⟩
theorem Pk.one {a b:Int} {t:List Int} {c d:Int}:Pk (a::b::t) 1 c d↔d∣c*a∧d∣c*b∧Pk t 1 c d :=
  ⟨fun ⟨h1,h2,h3⟩=>⟨Pk.zero.mp h1,Pk.zero.mp h2,h3⟩,fun ⟨h1,h2,h3⟩=>⟨Pk.zero.mpr h1,Pk.zero.mpr h2,h3⟩⟩
theorem Pk.swap {a b:Int} {t:List Int}:∀ {k:Nat} {c d:Int},Pk (a::b::t) k c d→Pk (b::a::t) k c d
  | 0,c,d,h=>h
  | 1,c,d,h=>let ⟨h1,h2,h3⟩:=Pk.one.mp h;Pk.one.mpr ⟨h2,h1,h3⟩
  | k+2,c,d,h=>by
    obtain ⟨h1,h2,h3,h4⟩:=Pk.two.mp h
    refine Pk.two.mpr ⟨?_,h3,h2,h4⟩
    have e:c*b*a=c*a*b:=by grind
    rw [e];exact h1
theorem Pk.perm {s t:List Int} (p:s.Perm t):∀ {k:Nat} {c d:Int},Pk s k c d→Pk t k c d:=by
  induction p with
  | nil=>exact fun h=>h
  | cons a _ ih =>
    intro k c d h
    cases k with
    | zero=>exact h
    | succ k=>exact ⟨ih h.1,ih h.2⟩
  | swap a b t=>exact fun h=>h.swap
  | trans _ _ ih1 ih2=>exact fun h=>ih2 (ih1 h)
theorem Pk.step {a b g l x y u v:Int} {t:List Int} (hg:g=x*a+y*b) (ha:a=u*g) (hb:b=v*g) (hl:l=u*b):∀ {k:Nat} {c d:Int},Pk (a::b::t) k c d↔Pk (g::l::t) k c d
  | 0,c,d=>Iff.rfl
  | 1,c,d=>by
    rw [Pk.one,Pk.one]
    constructor
    · rintro ⟨h1,h2,h3⟩
      refine ⟨?_,?_,h3⟩
      · have e:c*g=x*(c*a)+y*(c*b):=by rw [hg];grind
        rw [e];exact Int.dvd_add (Int.dvd_trans h1 (Int.dvd_mul_left _ _)) (Int.dvd_trans h2 (Int.dvd_mul_left _ _))
      · have e:c*l=u*(c*b):=by rw [hl];grind
        rw [e];exact Int.dvd_trans h2 (Int.dvd_mul_left _ _)
    · rintro ⟨h1,h2,h3⟩
      refine ⟨?_,?_,h3⟩
      · have e:c*a=u*(c*g):=by rw [ha];grind
        rw [e];exact Int.dvd_trans h1 (Int.dvd_mul_left _ _)
      · have e:c*b=v*(c*g):=by rw [hb];grind
        rw [e];exact Int.dvd_trans h1 (Int.dvd_mul_left _ _)
  | k+2,c,d=>by
    rw [Pk.two,Pk.two]
    have e0:c*a*b=c*g*l:=by rw [hl,ha];grind
    rw [e0]
    constructor
    · rintro ⟨h0,h1,h2,h3⟩
      refine ⟨h0,?_,?_,h3⟩
      · have e:c*g=x*(c*a)+y*(c*b):=by rw [hg];grind
        rw [e];exact h1.lin x y h2
      · have e:c*l=u*(c*b):=by rw [hl];grind
        rw [e];exact h2.mulc u
    · rintro ⟨h0,h1,h2,h3⟩
      refine ⟨h0,?_,?_,h3⟩
      · have e:c*a=u*(c*g):=by rw [ha];grind
        rw [e];exact h1.mulc u
      · have e:c*b=v*(c*g):=by rw [hb];grind
        rw [e];exact h1.mulc v
theorem Pk.cons_congr {a:Int} {s t:List Int} (h:∀ {k:Nat} {c d:Int},Pk s k c d↔Pk t k c d):∀ {k:Nat} {c d:Int},Pk (a::s) k c d↔Pk (a::t) k c d
  | 0,_,_=>Iff.rfl
  | k+1,c,d=>and_congr h h
theorem Pk.swap_iff {a b:Int} {t:List Int} {k:Nat} {c d:Int}:Pk (a::b::t) k c d↔Pk (b::a::t) k c d:=⟨Pk.swap,Pk.swap⟩
theorem Pk.set_head {a b g l x y u v:Int} (hg:g=x*a+y*b) (ha:a=u*g) (hb:b=v*g) (hl:l=u*b):∀ {t:List Int} {j:Nat},t[j]? = some b→∀ {k:Nat} {c d:Int},Pk (a::t) k c d↔Pk (g::t.set j l) k c d
  | [],_,h,_,_,_=>by simp at h
  | b' :: t,0,h,k,c,d=>by
    simp at h
    subst h
    exact Pk.step hg ha hb hl
  | e::t,j+1,h,k,c,d=>by
    have ih:=fun {k c d}=>Pk.set_head (k:=k) (c:=c) (d:=d) hg ha hb hl (t:=t) (j:=j) (by simpa using h)
    rw [List.set_cons_succ,Pk.swap_iff,Pk.swap_iff (a:=g)]
    exact Pk.cons_congr ih
theorem Pk.set {a b g l x y u v:Int} (hg:g=x*a+y*b) (ha:a=u*g) (hb:b=v*g) (hl:l=u*b):∀ {t:List Int} {i j:Nat},i<j→t[i]? = some a→t[j]? = some b→∀ {k:Nat} {c d:Int},Pk t k c d↔Pk ((t.set i g).set j l) k c d
  | [],_,_,_,h,_,_,_,_=>by simp at h
  | a' :: t,0,j+1,_,h1,h2,k,c,d=>by
    simp at h1
    subst h1
    rw [List.set_cons_zero,List.set_cons_succ]
    exact Pk.set_head hg ha hb hl (by simpa using h2)
  | e::t,i+1,j+1,hij,h1,h2,k,c,d=>by
    rw [List.set_cons_succ,List.set_cons_succ]
    exact Pk.cons_congr (Pk.set hg ha hb hl (by omega) (by simpa using h1) (by simpa using h2))
  | _::_,_,0,h,_,_,_,_,_=>by omega
def Chain:List Int→Prop
  | []=>True
  | a::t=>(∀ b∈t,a∣b)∧Chain t
theorem take_dvd {a:Int}:∀ {t:List Int} {k:Nat},(∀ b∈t,a∣b)→k<t.length→a*prod (t.take k)∣prod (t.take (k+1))
  | [],_,_,h=>by simp at h
  | b::t,0,h,_=>by
    simp only [List.take_zero,List.take_succ_cons,prod,Int.mul_one]
    exact h b List.mem_cons_self
  | b::t,k+1,h,hk=>by
    rw [List.take_succ_cons,List.take_succ_cons]
    simp only [prod]
    have:=take_dvd (t:=t) (k:=k) (fun c hc=>h c (List.mem_cons_of_mem _ hc)) (by simpa using hk)
    have e:a*(b*prod (t.take k))=b*(a*prod (t.take k)):=by grind
    rw [e]
    exact Int.mul_dvd_mul (Int.dvd_refl b) this
theorem Pk.chain:∀ {t:List Int} {k:Nat} {c d:Int},Chain t→k≤t.length→(Pk t k c d↔d∣c*prod (t.take k))
  | t,0,c,d,_,_=>by rw [Pk.zero];simp [prod]
  | [],k+1,_,_,_,h=>by simp at h
  | a::t,k+1,c,d,⟨h1,h2⟩,hk=>by
    have hk':k≤t.length:=by simpa using hk
    show Pk t k (c*a) d∧Pk t (k+1) c d↔_
    rw [Pk.chain h2 hk',List.take_succ_cons]
    simp only [prod]
    rw [Int.mul_assoc]
    constructor
    · exact fun h=>h.1
    · intro h
      refine ⟨h,?_⟩
      rcases Nat.lt_or_ge k t.length with z | z
      · rw [Pk.chain h2 z]
        refine Int.dvd_trans h (Int.mul_dvd_mul (Int.dvd_refl c) (take_dvd h1 z))
      · have:∀ {s:List Int} {m:Nat} {c d:Int},s.length<m→Pk s m c d:=by
          intro s
          induction s with
          | nil=>intro m c d hm;cases m with
            | zero=>simp at hm
            | succ m=>trivial
          | cons a s ih=>intro m c d hm;cases m with
            | zero=>simp at hm
            | succ m=>exact ⟨ih (by simpa using hm),ih (by simp at hm;omega)⟩
        exact this (by omega)
theorem Pk.pick {d:Int}:∀ {rs qs:List (Nat × Int)} {c:Int},rs.Nodup→(∀ r∈rs,r∈qs)→Pk (qs.map Prod.snd) rs.length c d→d∣c*prod (rs.map Prod.snd)
  | [],qs,c,_,_,h=>by have:=Pk.zero.mp h;simpa [prod] using this
  | r::rs,qs,c,nd,hs,h=>by
    have hr:=hs r List.mem_cons_self
    have p:(qs.map Prod.snd).Perm (r.2::(qs.erase r).map Prod.snd):=by
      have:=(List.perm_cons_erase hr).map Prod.snd
      rwa [List.map_cons] at this
    have h1:=(Pk.perm p h).1
    have:=Pk.pick (c:=c*r.2) (List.nodup_cons.mp nd).2 (fun q hq=>(List.mem_erase_of_ne (fun (e:q=r)=>(List.nodup_cons.mp nd).1 (by rw [← e];exact hq))).mpr (hs q (List.mem_cons_of_mem _ hq))) h1
    rw [List.map_cons]
    simp only [prod]
    rwa [Int.mul_assoc] at this
theorem dv_pk {d:Int} {all:List (Nat × Int)}:∀ {qs cs:List (Nat × Int)} {k:Nat},((cs++qs).map Prod.fst).Nodup→(∀ q∈cs++qs,q∈all)→Dv (cs.length+k) (all.map un) d→Pk (qs.map Prod.snd) k (prod (cs.map Prod.snd)) d
  | qs,cs,0,nd,hs,h=>by
    rw [Pk.zero,← mi_diag cs (by rw [List.map_append] at nd;exact (List.nodup_append.mp nd).1)]
    exact h _ (by simp) (fun v hv=>by
      obtain ⟨q,hq,rfl⟩:=List.mem_map.mp hv
      exact List.mem_map_of_mem (hs q (List.mem_append_left _ hq))) _ (by simp)
  | [],_,k+1,_,_,_=>trivial
  | q::qs,cs,k+1,nd,hs,h=>by
    refine ⟨?_,?_⟩
    · have:=dv_pk (qs:=qs) (cs:=cs++[q]) (k:=k) (by rw [List.append_assoc];exact nd) (by rw [List.append_assoc];exact hs) (by rw [List.length_append,List.length_singleton,show cs.length+1+k=cs.length+(k+1) by omega];exact h)
      rw [List.map_append,prod_app] at this
      simpa [prod] using this
    · refine dv_pk (cs:=cs) (k:=k+1) ?_ (fun r hr=>hs r ?_) h
      · have:(cs++qs).Sublist (cs++q::qs):=List.Sublist.append (List.Sublist.refl cs) (List.sublist_cons_self q qs)
        exact (this.map Prod.fst).nodup nd
      · rcases List.mem_append.mp hr with z | z
        · exact List.mem_append_left _ z
        · exact List.mem_append_right _ (List.mem_cons_of_mem _ z)
theorem pre_ix {α β:Type} {f:α→β} {L:List α}:∀ {vs:List β},(∀ v∈vs,v∈L.map f)→∃ rs:List α,vs=rs.map f∧∀ r∈rs,r∈L
  | [],_=>⟨[],rfl,fun r hr=>nomatch hr⟩
  | v::vs,h=>by
    obtain ⟨rs,e,h2⟩:=pre_ix (vs:=vs) fun q hq=>h q (List.mem_cons_of_mem _ hq)
    obtain ⟨r,hr,er⟩:=List.mem_map.mp (h v List.mem_cons_self)
    refine ⟨r::rs,by rw [List.map_cons,← e,er],fun q hq=>?_⟩
    rcases List.mem_cons.mp hq with rfl | hq
    · exact hr
    · exact h2 q hq
theorem nodup_of_map {α β:Type} {f:α→β}:∀ {l:List α},(l.map f).Nodup→l.Nodup
  | [],_=>List.nodup_nil
  | a::l,h=>by
    rw [List.map_cons] at h
    have h':=List.nodup_cons.mp h
    exact List.nodup_cons.mpr ⟨fun hm=>h'.1 (List.mem_map_of_mem hm),nodup_of_map h'.2⟩
theorem Dv.diag {k:Nat} {d:Int} {qs:List (Nat × Int)} (hk:k≤4) (nd:(qs.map Prod.fst).Nodup):Dv k (qs.map un) d↔Pk (qs.map Prod.snd) k 1 d:=by
  constructor
  · intro h
    exact dv_pk (qs:=qs) (cs:=[]) (all:=qs) (k:=k) nd (fun q hq=>by simpa using hq) (by simpa using h)
  · intro h vs hl hv js hj
    obtain ⟨rs,rfl,hr⟩:=pre_ix hv
    rw [List.length_map] at hl
    by_cases nj:js.Nodup
    · rcases mi_un rs js nj (by omega) with z | ⟨n1,_,s,hs,e⟩
      · rw [z];exact Int.dvd_zero _
      · rw [e]
        have nr:rs.Nodup:=nodup_of_map n1
        have:=Pk.pick nr hr (by rw [hl];exact h)
        rw [Int.one_mul] at this
        exact Int.dvd_trans this (Int.dvd_mul_left _ _)
    · rw [mi_dup _ js (by simp;omega) (by omega) nj]
      exact Int.dvd_zero _
end La
set_option linter.all false
namespace La
theorem turn_count {w:Nat} {P H:List Vec} {ls lh:List Nat} (hp:Pl 0 ls P) (hw:∀ r∈P,∀ j,w≤j→r j=0) (hh:Pl 0 lh H) (he:Eqv H (cols w P)):H.length=P.length:=by
  have out:∀ a∈augF P.length 0 (cols w P),∀ j,P.length+w≤j→a j=0:=fun a ha j hj =>
    augF_at0 (by omega) (.inr (by rw [cols_len];omega)) a ha
  obtain ⟨l0,A,pA,eA,_⟩:=pl_exists out
  obtain ⟨l1,l2,P1,P2,e1,e2,K⟩:=ker_of cols_out pA eA
  have c0:=K.lev.count hp hw
  have c1:=K.cnt
  rw [cols_len] at c1
  rw [List.length_map] at c0
  have c2:=(K.pl1.uniq hh (K.eqv.trans he.symm)).1
  have:=congrArg List.length c2
  rw [List.length_map] at this
  omega
theorem range_leads:∀ {lo:Nat} {ls:List Nat} {P:List Vec},Pl lo ls P→(∀ x∈ls,x<lo+P.length)→ls=List.range' lo P.length
  | lo,[],[],_,_=>rfl
  | lo,l::ls,r::P,⟨a,b,c,d,e⟩,h=>by
    have h1:P.length≤lo+(r::P).length-(l+1):=by
      have:=e.ec.len_le (n:=lo+(r::P).length) fun x hx=>h x (List.mem_cons_of_mem _ hx)
      exact this
    rw [List.length_cons] at h1
    have h2:=h l List.mem_cons_self
    rw [List.length_cons] at h2
    have hl:l=lo:=by omega
    subst hl
    rw [List.length_cons,List.range'_succ,← range_leads e fun x hx=>by have:=h x (List.mem_cons_of_mem _ hx);rw [List.length_cons] at this;omega]
  | _,[],_::_,h,_=>h.elim
  | _,_::_,[],h,_=>h.elim
structure Sq (r:Nat) (H:List Vec):Prop where
  len:H.length=r
  pl:Pl 0 (List.range' 0 r) H
  out:∀ q∈H,∀ j,r≤j→q j=0
theorem Ec.from:∀ {l1 l2:List Nat} {lo:Nat} {P1 P2:List Vec},l1.length=P1.length→Ec lo (l1++l2) (P1++P2)→∀ v,Sp P2 v↔Sp (P1++P2) v∧∀ x∈l1,v x=0
  | [],l2,lo,[],P2,_,_,v=>by simp
  | l::l1,l2,lo,p::P1,P2,h,e,v=>by
    have e':Ec lo (l::(l1++l2)) (p::(P1++P2)):=e
    rw [Ec.from (by simpa using h) e'.2.2.2 v,e'.tail v]
    simp only [List.cons_append,List.mem_cons,forall_eq_or_imp]
    constructor
    · rintro ⟨⟨h1,h2⟩,h3⟩;exact ⟨h1,h2,h3⟩
    · rintro ⟨h1,h2,h3⟩;exact ⟨⟨h1,h2⟩,h3⟩
  | [],_,_,_::_,_,h,_,_=>by simp at h
  | _::_,_,_,[],_,h,_,_=>by simp at h
theorem sq_cut {r j:Nat} {H:List Vec} (hs:Sq r H) (hj:j<r):∃ (A B:List Vec) (l3:List Nat),H=A++rw' H j::B∧A.length=j∧Pl j (j::l3) (rw' H j::B)∧(∀ x∈l3,j<x)∧∀ v,Sp (rw' H j::B) v↔Sp H v∧∀ i,i<j→v i=0:=by
  have hl:=hs.len
  have e:H=H.take j++rw' H j::H.drop (j+1):=by
    have h1:H.drop j=rw' H j::H.drop (j+1):=by
      rw [List.drop_eq_getElem_cons (by omega)]
      congr 1
      simp [rw',List.getD,List.getElem?_eq_getElem (show j<H.length by omega)]
    rw [← h1,List.take_append_drop]
  have er:List.range' 0 r=List.range' 0 j++j::List.range' (j+1) (r-j-1):=by
    have:List.range' 0 r=List.range' 0 j++List.range' j (r-j):=by
      have:=List.range'_append (s:=0) (m:=j) (n:=r-j) (step:=1)
      rw [show j+(r-j)=r by omega] at this
      rw [← this];simp
    rw [this,show r-j=(r-j-1)+1 by omega,List.range'_succ]
    simp
  have hp:=hs.pl
  rw [er,e] at hp
  have la:(List.range' 0 j).length=(H.take j).length:=by simp;omega
  obtain ⟨_,lo',_,p2⟩:=hp.parts la
  refine ⟨H.take j,H.drop (j+1),_,e,by simp;omega,⟨Nat.le_refl _,p2.2.1,p2.2.2.1,p2.2.2.2.1,p2.2.2.2.2⟩,fun x hx=>?_,fun v=>?_⟩
  · obtain ⟨i,_,rfl⟩:=List.mem_range'.mp hx
    omega
  · rw [Ec.from la hp.ec v,← e]
    constructor
    · rintro ⟨h1,h2⟩;exact ⟨h1,fun i hi=>h2 i (List.mem_range'.mpr ⟨i,hi,by omega⟩)⟩
    · rintro ⟨h1,h2⟩
      refine ⟨h1,fun x hx=>?_⟩
      obtain ⟨i,hi,rfl⟩:=List.mem_range'.mp hx
      exact h2 _ (by omega)
theorem red_zero {v:Vec}:∀ {lo:Nat} {ls:List Nat} {P:List Vec},Ec lo ls P→(∀ x∈ls,v x=0)→Red below v ls P
  | _,[],_,_,_=>by unfold Red;trivial
  | _,_::_,[],h,_=>h.elim
  | _,l::ls,p::P,⟨_,_,c,e⟩,h=>⟨by rw [h l List.mem_cons_self];exact ⟨Int.le_refl _,c⟩,red_zero e fun x hx=>h x (List.mem_cons_of_mem _ hx)⟩
theorem sq_un {r j:Nat} {H:List Vec} (hs:Sq r H) (hj:j<r) {a:Int} (h:Sp H (un (j,a))):(∃ k,a=k*rw' H j j)∧(rw' H j j=a→rw' H j=un (j,a)):=by
  obtain ⟨A,B,l3,e,la,p,hx,hsp⟩:=sq_cut hs hj
  have h1:Sp (rw' H j::B) (un (j,a)):=(hsp _).mpr ⟨h,fun i hi=>by simp [un];omega⟩
  obtain ⟨_,k,hk⟩:=p.ec.first h1
  refine ⟨⟨k,by simpa [un] using hk⟩,fun ea=>?_⟩
  have h2:Sp (rw' H j::B) (fun i=>rw' H j i-un (j,a) i):=(Sp.of List.mem_cons_self).sub h1
  have h3:Sp B (fun i=>rw' H j i-un (j,a) i):=(p.ec.tail _).mpr ⟨h2,by simp [un,ea]⟩
  refine sub_zV (p.2.2.2.2.ec.none h3 (red_sub p.2.2.2.1 (red_zero p.2.2.2.2.ec fun x hx'=>?_)))
  have:=hx x hx'
  simp [un];omega
theorem rw_mem {L:List Vec} {j:Nat} (h:j<L.length):rw' L j∈L:=by
  unfold rw'
  rw [List.getD,List.getElem?_eq_getElem h]
  exact List.getElem_mem h
theorem sq_pos {r j:Nat} {H:List Vec} (hs:Sq r H) (hj:j<r):0<rw' H j j∧∀ i,i<j→rw' H j i=0:=by
  obtain ⟨A,B,l3,e,la,p,hx,hsp⟩:=sq_cut hs hj
  exact ⟨p.2.2.1,p.2.1⟩
def Al (i:Nat) (H:List Vec):Prop:=∀ j,j<i→∀ p,p≠j→rw' H j p=0
theorem sp_dvd {L:List Vec} {d:Int} {j:Nat} {v:Vec} (h:Sp L v) (hd:∀ r∈L,d∣r j):d∣v j:=by
  induction h with
  | zero=>exact Int.dvd_zero _
  | add v r c hr _ ih=>exact Int.dvd_add ih (Int.dvd_trans (hd r hr) (Int.dvd_mul_left _ _))
theorem al_col {r i j:Nat} {H:List Vec} (hs:Sq r H) (ha:Al i H) (hj:j<r) (hi:j≤i):col H j=un (j,rw' H j j):=by
  rw [col_rw]
  funext t
  show rw' H t j=if t=j then rw' H j j else 0
  split
  · rename_i e;rw [e]
  · rename_i e
    rcases Nat.lt_or_ge t j with z | z
    · exact ha t (by omega) j (by omega)
    · rcases Nat.lt_or_ge t r with y | y
      · exact (sq_pos hs y).2 j (by omega)
      · unfold rw'
        rw [List.getD,List.getElem?_eq_none (by rw [hs.len];exact y)];rfl
theorem next_al {r i:Nat} {H H':List Vec} (hs:Sq r H) (hs':Sq r H') (he:Eqv H' (cols r H)) (hi:i≤r) (ha:Al i H):Al i H'∧(i<r→rw' H' i i≤rw' H i i∧(rw' H' i i=rw' H i i→Al (i+1) H')):=by
  have key:∀ j,j<r→j≤i→Sp H' (un (j,rw' H j j)):=fun j hj hji=>by
    rw [← al_col hs ha hj hji]
    exact (he _).mpr (.of (List.mem_map_of_mem (List.mem_range.mpr hj)))
  have un_out:∀ j (a:Int) p,p≠j→un (j,a) p=0:=fun j a p hp=>by simp [un,hp]
  have row:∀ j,j<i→rw' H' j=un (j,rw' H j j):=fun j hj=>by
    have hjr:j<r:=by omega
    obtain ⟨⟨k,hk⟩,h2⟩:=sq_un hs' hjr (key j hjr (by omega))
    have d1:rw' H j j∣rw' H' j j:=sp_dvd ((he _).mp (.of (rw_mem (by rw [hs'.len];exact hjr)))) fun q hq=>by
      obtain ⟨c,hc,rfl⟩:=List.mem_map.mp hq
      rw [col_rw]
      show _∣rw' H j c
      by_cases e:c=j
      · rw [e];exact Int.dvd_refl _
      · rw [ha j hj c e];exact Int.dvd_zero _
    obtain ⟨m,hm⟩:=d1
    exact h2 (mul_pos_eq (sq_pos hs' hjr).1 (sq_pos hs hjr).1 (by rw [hm,Int.mul_comm]) hk)
  have a1:Al i H':=fun j hj p hp=>by rw [row j hj];exact un_out j _ p hp
  refine ⟨a1,fun hir=>?_⟩
  obtain ⟨⟨k,hk⟩,h2⟩:=sq_un hs' hir (key i hir (Nat.le_refl _))
  have p1:=(sq_pos hs' hir).1
  have p2:=(sq_pos hs hir).1
  refine ⟨?_,fun e j hj p hp=>?_⟩
  · have hk1:1≤k:=by
      rcases Int.lt_or_le k 1 with z | z
      · have:=Int.mul_nonneg (show 0 ≤ -k by omega) (show 0≤rw' H' i i by omega)
        rw [Int.neg_mul] at this
        omega
      · exact z
    have:=Int.mul_le_mul_of_nonneg_right hk1 (show 0≤rw' H' i i by omega)
    omega
  · rcases Nat.lt_or_ge j i with z | z
    · exact a1 j z p hp
    · have:j=i:=by omega
      subst this
      rw [h2 e]
      exact un_out j _ p hp
inductive Ends (r:Nat):List Vec→List Vec→Prop
  | done {H:List Vec}:Sq r H→Al r H→Ends r H H
  | turn {H H' F:List Vec}:Sq r H→Sq r H'→Eqv H' (cols r H)→Ends r H' F→Ends r H F
theorem next_sq {r:Nat} {H:List Vec} (hs:Sq r H):∃ H',Sq r H'∧Eqv H' (cols r H):=by
  have out:∀ q∈cols r H,∀ j,r≤j→q j=0:=fun q hq j hj=>cols_out q hq j (by rw [hs.len];exact hj)
  obtain ⟨ls,H',p,e,q⟩:=pl_exists out
  have hl:H'.length=r:=(turn_count hs.pl hs.out p e).trans hs.len
  have:=range_leads p fun x hx=>by rw [hl,Nat.zero_add];exact q x hx
  rw [hl] at this
  subst this
  exact ⟨H',⟨hl,p,fun a ha j hj=>((e a).mp (.of ha)).at0 fun b hb=>out b hb j hj⟩,e⟩
theorem ends_from {r:Nat}:∀ (m i:Nat),i+m=r→∀ (n:Nat) (H:List Vec),Sq r H→Al i H→(i<r→(rw' H i i).natAbs≤n)→∃ F,Ends r H F
  | 0,i,hm,n,H,hs,ha,_=>⟨H,.done hs (by rw [← hm];exact ha)⟩
  | m+1,i,hm,0,H,hs,ha,hn=>by
    have:=(sq_pos hs (show i<r by omega)).1
    have:=hn (by omega)
    omega
  | m+1,i,hm,n+1,H,hs,ha,hn=>by
    have hir:i<r:=by omega
    obtain ⟨H',hs',he⟩:=next_sq hs
    obtain ⟨a1,a2⟩:=next_al hs hs' he (by omega) ha
    obtain ⟨a3,a4⟩:=a2 hir
    have p1:=(sq_pos hs' hir).1
    have hn':=hn hir
    by_cases e:rw' H' i i=rw' H i i
    · obtain ⟨F,hF⟩:=ends_from m (i+1) (by omega) (rw' H' (i+1) (i+1)).natAbs H' hs' (a4 e) fun _=>Nat.le_refl _
      exact ⟨F,.turn hs hs' he hF⟩
    · obtain ⟨F,hF⟩:=ends_from (m+1) i hm n H' hs' a1 fun _=>by omega
      exact ⟨F,.turn hs hs' he hF⟩
theorem ends_exist {r:Nat} {H:List Vec} (hs:Sq r H):∃ F,Ends r H F :=
  ends_from r 0 (by omega) (rw' H 0 0).natAbs H hs (fun j hj=>by omega) fun _=>Nat.le_refl _
theorem Ends.sq {r:Nat} {H F:List Vec} (h:Ends r H F):Sq r H:=by cases h<;>assumption
theorem Ends.last {r:Nat} {H F:List Vec} (h:Ends r H F):Sq r F∧Al r F:=by
  induction h with
  | done a b=>exact ⟨a,b⟩
  | turn _ _ _ _ ih=>exact ih
theorem Ends.dv {r k:Nat} {H F:List Vec} (h:Ends r H F) (hk:k≤4) {d:Int}:Dv k H d↔Dv k F d:=by
  induction h with
  | done _ _=>exact Iff.rfl
  | turn hs _ he _ ih=>rw [← ih,Dv.congr he,Dv.turn hk hs.out]
theorem csum_dot:∀ (k w:Nat) (c:Vec) (L:List Vec) (y:Vec),dot w (csum k c L) y=csum k c (L.map fun r=>fun _=>dot w r y) 0
  | k,w,c,[],y=>by simp [csum,dot_zero,zV]
  | k,w,c,r::L,y=>by
    have e:csum k c (r::L)=ax (csum (k+1) c L) (c k) r:=by funext j;simp only [csum,ax];omega
    rw [e,dot_ax,csum_dot (k+1) w c L y]
    simp only [List.map_cons,csum]
    omega
theorem units_of {w:Nat} {e:Int} {P:List Vec} (h:∀ i,i<P.length→Sp (cols w P) (un (i,e))) {v:Vec} {k:Int} (hk:k≠0) (hv:Sp P (fun j=>k*v j)):Sp P (fun j=>e*v j):=by
  obtain ⟨c,hc⟩:=sp_csum 0 hv
  have hY:∀ i,∃ y:Vec,i<P.length→∀ t,t<P.length→dot w (rw' P t) y=if t=i then e else 0:=fun i=>by
    by_cases hi:i<P.length
    · obtain ⟨y,hy⟩:=sp_csum 0 (h i hi)
      refine ⟨y,fun _ t ht=>?_⟩
      have:=congrFun hy t
      rw [csum_cols,List.getElem?_eq_getElem ht] at this
      have e2:rw' P t=P[t]:=by simp [rw',List.getD,List.getElem?_eq_getElem ht]
      rw [e2]
      simp only [un] at this
      exact this.symm
    · exact ⟨zV,fun h=>absurd h hi⟩
  obtain ⟨Y,hYc⟩:=Classical.axiomOfChoice hY
  have one:∀ (L:List Vec) (s i:Nat),i<P.length→(∀ t,t<L.length→dot w (rw' L t) (Y i)=if s+t=i then e else 0)→csum s c (L.map fun r=>fun _=>dot w r (Y i)) 0=if s≤i∧i<s+L.length then e*c i else 0:=by
    intro L
    induction L with
    | nil=>intro s i _ _;simp [csum,zV];omega
    | cons q L ih =>
      intro s i hi ht
      have h0:=ht 0 (by simp)
      have h0':dot w q (Y i)=if s=i then e else 0:=by simpa [rw'] using h0
      have ih':=ih (s+1) i hi fun t hh=>by
        have:=ht (t+1) (by simp;omega)
        rw [show s+1+t=s+(t+1) by omega]
        simpa [rw'] using this
      simp only [List.map_cons,csum,ih',h0',List.length_cons]
      by_cases es:s=i
      · subst es
        rw [if_pos rfl,if_neg (by omega),if_pos (by omega),Int.mul_comm];omega
      · rw [if_neg es]
        by_cases h2:s+1≤i∧i<s+1+L.length
        · rw [if_pos h2,if_pos (by omega)];omega
        · rw [if_neg h2,if_neg (by omega)];omega
  have cof:∀ i,i<P.length→e*c i=k*dot w v (Y i):=fun i hi=>by
    have h1:=csum_dot 0 w c P (Y i)
    rw [← hc,one P 0 i hi fun t ht=>by rw [Nat.zero_add];exact hYc i hi t ht,if_pos (by omega)] at h1
    rw [← h1,dot_comm,dot_mul,dot_comm]
  have h2:csum 0 (fun i=>dot w v (Y i)) P=fun j=>e*v j:=by
    funext j
    have h3:k*csum 0 (fun i=>dot w v (Y i)) P j=k*(e*v j):=by
      rw [← csum_mul,csum_congr P (d:=fun i=>e*c i) fun i _ hi=>(cof i (by omega)).symm,csum_mul,← hc]
      grind
    exact Int.eq_of_mul_eq_mul_left hk h3
  rw [← h2]
  exact csum_sp 0 _ P
theorem sq_mult {r:Nat} {H:List Vec} (hs:Sq r H) {v:Vec} (hv:∀ j,r≤j→v j=0):∃ k:Int,k≠0∧Sp H (fun j=>k*v j):=by
  refine hs.pl.ec.ind.of_le (P:=augF 0 0 (List.replicate r zV)) (fun a ha=>augF_sp.mpr ⟨fun j hj=>absurd hj (Nat.not_lt_zero j),fun j _ hj=>?_⟩) (by rw [augF_len,List.length_replicate,hs.len];exact Nat.le_refl _)
  simp at hj
  rcases List.mem_cons.mp ha with rfl | ha
  · exact hv j hj
  · exact hs.out a ha j hj
theorem Ends.units {r:Nat} {H F:List Vec} (h:Ends r H F) {e:Int} (he:∀ i,i<r→rw' F i i∣e):∀ i,i<r→Sp H (un (i,e)):=by
  induction h with
  | @done H hs ha =>
    intro i hi
    obtain ⟨m,hm⟩:=he i hi
    have e1:un (i,e)=fun j=>m*rw' H i j:=by
      funext j
      show (if j=i then e else 0)=_
      split
      · rename_i ej;rw [ej,hm,Int.mul_comm]
      · rename_i ej;rw [ha i hi j ej];simp
    rw [e1]
    exact (Sp.of (rw_mem (by rw [hs.len];exact hi))).mul m
  | turn hs hs' hq _ ih =>
    intro i hi
    have h1:=ih he
    obtain ⟨k,hk,hkv⟩:=sq_mult hs (v:=un (i,1)) fun j hj=>by simp [un];omega
    have:=units_of (w:=r) (e:=e) (P:=_) (fun i hi=>(hq _).mp (h1 i (by rw [hs.len] at hi;exact hi))) hk hkv
    have e2:(fun j=>e*un (i,1) j)=un (i,e):=by funext j;simp only [un];split<;>simp
    rwa [e2] at this
end La
set_option linter.all false
namespace La
theorem bezN (a b:Nat):∃ x y:Int,(Nat.gcd a b:Int)=x*a+y*b:=by
  refine Nat.gcd.induction (P:=fun a b=>∃ x y:Int,(Nat.gcd a b:Int)=x*a+y*b) a b (fun b=>?_) fun a b ha ⟨x,y,h⟩=>?_
  · exact ⟨0,1,by simp⟩
  · rw [Nat.gcd_rec,h]
    refine ⟨y-x*((b / a:Nat):Int),x,?_⟩
    have e:(b:Int)=((b % a:Nat):Int)+((b / a:Nat):Int)*a:=by
      have:=Nat.mod_add_div b a
      have h2:((b % a+a*(b / a):Nat):Int)=(b:Int):=by rw [this]
      rw [Int.natCast_add,Int.natCast_mul] at h2
      grind
    rw [e];grind
def gcdZ (a b:Int):Int:=(Int.gcd a b:Int)
theorem gcd_facts {a b:Int} (ha:0<a) (hb:0<b):0<gcdZ a b∧(∃ x y,gcdZ a b=x*a+y*b)∧(∃ v,b=v*gcdZ a b)∧a=a.fdiv (gcdZ a b)*gcdZ a b∧0<a.fdiv (gcdZ a b):=by
  have g1:gcdZ a b∣a:=Int.gcd_dvd_left ..
  have g2:gcdZ a b∣b:=Int.gcd_dvd_right ..
  have gp:0<gcdZ a b:=by
    have:Int.gcd a b≠0:=fun h=>by
      have:=(Int.gcd_eq_zero_iff.mp h).1
      omega
    unfold gcdZ;omega
  obtain ⟨u,hu⟩:=g1
  have hd:a.fdiv (gcdZ a b)=u:=by
    rw [Int.fdiv_eq_ediv_of_nonneg _ (by omega)]
    exact Int.ediv_eq_of_eq_mul_right (by omega) hu
  have hup:0<u:=by
    rcases Int.lt_or_le 0 u with z | z
    · exact z
    · have:=Int.mul_nonneg (show 0≤gcdZ a b by omega) (show 0 ≤ -u by omega)
      rw [Int.mul_neg] at this
      omega
  refine ⟨gp,?_,?_,by rw [hd,Int.mul_comm];exact hu,by rw [hd];exact hup⟩
  · obtain ⟨x,y,h⟩:=bezN a.natAbs b.natAbs
    refine ⟨x,y,?_⟩
    unfold gcdZ Int.gcd
    rw [h,Int.natAbs_of_nonneg (by omega),Int.natAbs_of_nonneg (by omega)]
  · obtain ⟨v,hv⟩:=g2
    exact ⟨v,by rw [Int.mul_comm];exact hv⟩
def stepZ (i j:Nat) (L:List Int):List Int:=(L.set j ((at' L i).fdiv (gcdZ (at' L i) (at' L j))*at' L j)).set i (gcdZ (at' L i) (at' L j))
theorem at_set (L:List Int) (i:Nat) (x:Int) (j:Nat) (h:i<L.length):at' (L.set i x) j=if j=i then x else at' L j:=by
  unfold at'
  simp only [List.getD,List.getElem?_set]
  by_cases e:i=j
  · subst e;simp [h]
  · rw [if_neg e,if_neg (fun h=>e h.symm)]
structure Ch (L0 L:List Int):Prop where
  len:L.length=L0.length
  pos:∀ i,i<L.length→0<at' L i
  pk:∀ {k:Nat} {c d:Int},Pk L0 k c d↔Pk L k c d
  up:∀ e,(∀ i,i<L.length→at' L i∣e)→∀ i,i<L.length→at' L0 i∣e
theorem Ch.refl {L:List Int} (h:∀ i,i<L.length→0<at' L i):Ch L L:=⟨rfl,h,Iff.rfl,fun _ h=>h⟩
theorem step_at {i j:Nat} {L:List Int} (hij:i<j) (hj:j<L.length) (t:Nat):at' (stepZ i j L) t=if t=i then gcdZ (at' L i) (at' L j) else if t=j then (at' L i).fdiv (gcdZ (at' L i) (at' L j))*at' L j else at' L t:=by
  unfold stepZ
  rw [at_set _ _ _ _ (by rw [List.length_set];omega)]
  split
  · rfl
  · rw [at_set _ _ _ _ hj]
theorem Ch.step {L0 L:List Int} (h:Ch L0 L) {i j:Nat} (hij:i<j) (hj:j<L.length):Ch L0 (stepZ i j L):=by
  have hi:i<L.length:=by omega
  obtain ⟨g1,⟨x,y,g2⟩,⟨v,g3⟩,g4,g5⟩:=gcd_facts (h.pos i hi) (h.pos j hj)
  have ls:(stepZ i j L).length=L.length:=by simp [stepZ]
  have ps:0<(at' L i).fdiv (gcdZ (at' L i) (at' L j))*at' L j:=Int.mul_pos g5 (h.pos j hj)
  have gi:L[i]? = some (at' L i):=by simp [at',List.getD,List.getElem?_eq_getElem hi]
  have gj:L[j]? = some (at' L j):=by simp [at',List.getD,List.getElem?_eq_getElem hj]
  refine ⟨ls.trans h.len,fun t ht=>?_,fun {k c d}=>?_,fun e he t0 ht0=>h.up e (fun t ht=>?_) t0 (by omega)⟩
  · rw [step_at hij hj]
    split
    · exact g1
    · split
      · exact ps
      · exact h.pos t (by omega)
  · rw [h.pk]
    unfold stepZ
    rw [List.set_comm _ _ (by omega)]
    exact Pk.set g2 g4 g3 rfl hij gi gj
  · have a1:=he j (by omega)
    rw [step_at hij hj,if_neg (by omega),if_pos rfl] at a1
    by_cases ei:t=i
    · subst ei
      refine Int.dvd_trans ?_ a1
      rw [g3]
      conv=>lhs;rw [g4]
      exact ⟨v, by rw [← g3]; conv => lhs; rw [g3]
                   grind⟩
    · by_cases ej:t=j
      · subst ej
        exact Int.dvd_trans (Int.dvd_mul_left _ _) a1
      · have:=he t (by omega)
        rwa [step_at hij hj,if_neg ei,if_neg ej] at this
def Dn (i j:Nat) (L:List Int):Prop:=(∀ s,s<i→∀ t,s<t→t<L.length→at' L s∣at' L t)∧∀ t,i<t→t<j→t<L.length→at' L i∣at' L t
theorem Dn.step {L0 L:List Int} (h:Ch L0 L) {i j:Nat} (hij:i<j) (hj:j<L.length) (hd:Dn i j L):Dn i (j+1) (stepZ i j L):=by
  have hi:i<L.length:=by omega
  obtain ⟨g1,⟨x,y,g2⟩,⟨v,g3⟩,g4,g5⟩:=gcd_facts (h.pos i hi) (h.pos j hj)
  have ls:(stepZ i j L).length=L.length:=by simp [stepZ]
  have gd:∀ c,c∣at' L i→c∣at' L j→c∣gcdZ (at' L i) (at' L j):=fun c h1 h2=>by
    rw [g2];exact Int.dvd_add (Int.dvd_trans h1 (Int.dvd_mul_left _ _)) (Int.dvd_trans h2 (Int.dvd_mul_left _ _))
  refine ⟨fun s hs t hst ht=>?_,fun t h1 h2 ht=>?_⟩
  · rw [step_at hij hj,step_at hij hj,if_neg (show s≠i by omega),if_neg (show s≠j by omega)]
    split
    · exact gd _ (hd.1 s hs i hs hi) (hd.1 s hs j (by omega) hj)
    · split
      · exact Int.dvd_trans (hd.1 s hs j (by omega) hj) (Int.dvd_mul_left _ _)
      · exact hd.1 s hs t hst (by omega)
  · rw [step_at hij hj,step_at hij hj,if_pos rfl,if_neg (show t≠i by omega)]
    have ga:gcdZ (at' L i) (at' L j)∣at' L i:=⟨_,by rw [Int.mul_comm];exact g4⟩
    have gb:gcdZ (at' L i) (at' L j)∣at' L j:=⟨v,by rw [Int.mul_comm];exact g3⟩
    split
    · exact Int.dvd_trans gb (Int.dvd_mul_left _ _)
    · exact Int.dvd_trans ga (hd.2 t h1 (by omega) (by omega))
theorem Dn.next {i:Nat} {L:List Int} (h:Dn i L.length L):Dn (i+1) (i+2) L:=by
  refine ⟨fun s hs t hst ht=>?_,fun t h1 h2 _=>by omega⟩
  rcases Nat.lt_or_ge s i with z | z
  · exact h.1 s z t hst ht
  · have:s=i:=by omega
    subst this
    exact h.2 t hst ht ht
theorem chain_of:∀ (L:List Int),(∀ s t,s<t→t<L.length→at' L s∣at' L t)→Chain L
  | [],_=>trivial
  | a::t,h=>⟨fun b hb=>by
      obtain ⟨j,hj,e⟩:=List.mem_iff_getElem.mp hb
      have:=h 0 (j+1) (by omega) (by simpa using hj)
      simpa [at',List.getElem?_eq_getElem hj,e] using this,chain_of t fun s u hsu hu=>by
      have:=h (s+1) (u+1) (by omega) (by simpa using hu)
      simpa [at'] using this⟩
theorem lap_bd {v:Vec} {f:List Nat→Int} {M B:Nat} (hv:∀ j,(v j).natAbs≤M):∀ {js pr:List Nat},(∀ ks:List Nat,ks.length+1=pr.length+js.length→(f ks).natAbs≤B)→(lap v f pr js).natAbs≤js.length*(M*B)
  | [],_,_=>by simp [lap]
  | j::js,pr,hf=>by
    have h1:=lap_bd (f:=f) (B:=B) hv (js:=js) (pr:=pr++[j]) fun ks hk=>hf ks (by simp at hk ⊢;omega)
    have h2:(v j*f (pr++js)).natAbs≤M*B:=by
      rw [Int.natAbs_mul];exact Nat.mul_le_mul (hv j) (hf _ (by simp;omega))
    simp only [lap,List.length_cons]
    have h3:=Int.natAbs_sub_le (v j*f (pr++js)) (lap v f (pr++[j]) js)
    rw [Nat.add_mul,Nat.one_mul]
    omega
theorem mi_bd {M:Nat}:∀ (vs:List Vec) (js:List Nat),(∀ v∈vs,∀ j,(v j).natAbs≤M)→js.length≤4→(mi vs js).natAbs≤(4*M) ^ vs.length
  | [],js,_,_=>by simp [mi]
  | v::vs,js,h,hj=>by
    have:=lap_bd (f:=mi vs) (B:=(4*M) ^ vs.length) (h v List.mem_cons_self) (js:=js) (pr:=[]) fun ks hk=>mi_bd vs ks (fun q hq=>h q (List.mem_cons_of_mem _ hq)) (by simp at hk;omega)
    show (lap v (mi vs) [] js).natAbs≤_
    rw [List.length_cons,Nat.pow_succ]
    have h2:js.length*(M*(4*M) ^ vs.length)≤4*(M*(4*M) ^ vs.length):=Nat.mul_le_mul_right _ hj
    have e:4*(M*(4*M) ^ vs.length)=(4*M) ^ vs.length*(4*M):=by grind
    omega
structure Gr (r:Nat) (L:List Vec) (gs:List Int):Prop where
  len:gs.length=r
  pos:∀ g∈gs,0<g
  chain:Chain gs
  div:∀ k,k≤r→∀ d,Dv k L d↔d∣prod (gs.take k)
  last:∀ e,(∀ g∈gs,g∣e)→∀ (v:Vec) (k:Int),k≠0→Sp L (fun j=>k*v j)→Sp L (fun j=>e*v j)
theorem prod_pos:∀ {gs:List Int},(∀ g∈gs,0<g)→0<prod gs
  | [],_=>by decide
  | g::gs,h=>Int.mul_pos (h g List.mem_cons_self) (prod_pos fun x hx=>h x (List.mem_cons_of_mem _ hx))
theorem dvd_antisymm_pos {a b:Int} (ha:0<a) (hb:0<b) (h1:a∣b) (h2:b∣a):a=b:=by
  have:=Int.le_of_dvd hb h1
  have:=Int.le_of_dvd ha h2
  omega
theorem take_pos {gs:List Int} (h:∀ g∈gs,0<g) (k:Nat):0<prod (gs.take k):=prod_pos fun g hg=>h g (List.mem_of_mem_take hg)
theorem prods_eq:∀ {gs hs:List Int},gs.length=hs.length→(∀ g∈gs,0<g)→(∀ k,k≤gs.length→prod (gs.take k)=prod (hs.take k))→gs=hs
  | [],[],_,_,_=>rfl
  | g::gs,h::hs,hl,hp,he=>by
    have e1:g=h:=by have:=he 1 (by simp);simpa [prod] using this
    subst e1
    have hg:=hp g List.mem_cons_self
    rw [prods_eq (by simpa using hl) (fun x hx=>hp x (List.mem_cons_of_mem _ hx)) fun k hk=>by
      have:=he (k+1) (by simpa using hk)
      simp only [List.take_succ_cons,prod] at this
      exact Int.eq_of_mul_eq_mul_left (by omega) this]
  | [],_::_,h,_,_=>by simp at h
  | _::_,[],h,_,_=>by simp at h
theorem Gr.uniq {r:Nat} {L M:List Vec} {gs hs:List Int} (h:Gr r L gs) (g:Gr r M hs) (e:∀ k,k≤r→∀ d,Dv k L d↔Dv k M d):gs=hs :=
  prods_eq (h.len.trans g.len.symm) h.pos fun k hk=>dvd_antisymm_pos (take_pos h.pos k) (take_pos g.pos k)
    (((g.div k (by rw [← h.len];exact hk) _).mp ((e k (by rw [← h.len];exact hk) _).mp ((h.div k (by rw [← h.len];exact hk) _).mpr (Int.dvd_refl _)))))
    (((h.div k (by rw [← h.len];exact hk) _).mp ((e k (by rw [← h.len];exact hk) _).mpr ((g.div k (by rw [← h.len];exact hk) _).mpr (Int.dvd_refl _)))))
theorem Gr.size {r M:Nat} {L:List Vec} {gs:List Int} (h:Gr r L gs) (hr:r≤4) (hM:∀ v∈L,∀ j,(v j).natAbs≤M):(prod gs).natAbs≤(4*M) ^ r:=by
  have hp:=prod_pos h.pos
  have et:gs.take r=gs:=by rw [← h.len];exact List.take_length
  have h1:=(h.div r (Nat.le_refl _) (prod gs)).mpr (by rw [et];exact Int.dvd_refl _)
  by_cases hz:∃ (vs:List Vec) (js:List Nat),vs.length=r∧(∀ v∈vs,v∈L)∧js.length=r∧mi vs js≠0
  · obtain ⟨vs,js,a,b,c,d⟩:=hz
    have h2:=h1 vs a b js c
    have h3:=mi_bd (M:=M) vs js (fun v hv=>hM v (b v hv)) (by omega)
    rw [a] at h3
    have:=Int.natAbs_dvd_natAbs.mpr h2
    have:=Nat.le_of_dvd (by omega) this
    omega
  · have:Dv r L 0:=fun vs a b js c=>by
      refine Classical.byContradiction fun hn=>hz ⟨vs,js,a,b,c,fun e=>hn ?_⟩
      rw [e];exact Int.dvd_zero _
    have:=(h.div r (Nat.le_refl _) 0).mp this
    rw [et] at this
    have:=Int.zero_dvd.mp this
    omega
theorem Gr.of {r w:Nat} {L P0:List Vec} {qs:List (Nat × Int)} {gs:List Int} (hr:r≤4) (hq:qs.length=r) (nd:(qs.map Prod.fst).Nodup) (hp:∀ q∈qs,0<q.2) (hc:Ch (qs.map Prod.snd) gs) (hch:Chain gs)
    (hdv:∀ k,k≤4→∀ d,Dv k L d↔Dv k (qs.map un) d) (e0:Eqv L P0) (hu:∀ e,(∀ q∈qs,q.2∣e)→∀ i,i<P0.length→Sp (cols w P0) (un (i,e))):Gr r L gs:=by
  have hl:gs.length=r:=by rw [hc.len,List.length_map,hq]
  refine ⟨hl,fun g hg=>?_,hch,fun k hk d=>?_,fun e he v k hk hv=>?_⟩
  · obtain ⟨i,hi,e⟩:=List.mem_iff_getElem.mp hg
    have:=hc.pos i hi
    simpa [at',List.getElem?_eq_getElem hi,e] using this
  · rw [hdv k (by omega),Dv.diag (by omega) nd,hc.pk,Pk.chain hch (by omega),Int.one_mul]
  · rw [e0] at hv ⊢
    refine units_of (w:=w) (e:=e) (hu e fun q hq'=>?_) hk hv
    obtain ⟨i,hi,e1⟩:=List.mem_iff_getElem.mp hq'
    have:=hc.up e (fun i hi=>he _ (by
      have e2:at' gs i=gs[i]:=by simp [at',List.getD,List.getElem?_eq_getElem hi]
      rw [e2];exact List.getElem_mem hi)) i (by rw [hl,← hq];exact hi)
    have e3:at' (qs.map Prod.snd) i=q.2:=by simp [at',List.getD,List.getElem?_map,List.getElem?_eq_getElem hi,e1]
    rwa [e3] at this
end La
set_option linter.all false
namespace La
def chIn (i:Nat):List Nat→List Int→List Int
  | [],L=>L
  | j::js,L=>chIn i js (stepZ i j L)
def chOut (n:Nat):List Nat→List Int→List Int
  | [],L=>L
  | i::is,L=>chOut n is (chIn i (List.range' (i+1) (n-i-1)) L)
def chainZ (L:List Int):List Int:=chOut L.length (List.range' 0 L.length) L
theorem chIn_ok {L0:List Int} {i n:Nat}:∀ {m j:Nat} {L:List Int},j+m=n→L.length=n→i<j→Ch L0 L→Dn i j L→Ch L0 (chIn i (List.range' j m) L)∧Dn i n (chIn i (List.range' j m) L)
  | 0,j,L,e,_,_,hc,hd=>by
    have:j=n:=by omega
    subst this
    exact ⟨hc,hd⟩
  | m+1,j,L,e,hl,hij,hc,hd=>by
    rw [List.range'_succ]
    exact chIn_ok (j:=j+1) (by omega) (by simp [stepZ,hl]) (by omega) (hc.step hij (by omega)) (hd.step hc hij (by omega))
theorem chOut_ok {L0:List Int} {n:Nat}:∀ {m i:Nat} {L:List Int},i+m=n→L.length=n→Ch L0 L→Dn i (i+1) L→Ch L0 (chOut n (List.range' i m) L)∧Dn n (n+1) (chOut n (List.range' i m) L)
  | 0,i,L,e,hl,hc,hd=>by
    have:i=n:=by omega
    subst this
    exact ⟨hc,hd⟩
  | m+1,i,L,e,hl,hc,hd=>by
    rw [List.range'_succ]
    obtain ⟨h1,h2⟩:=chIn_ok (L0:=L0) (i:=i) (n:=n) (m:=n-i-1) (j:=i+1) (by omega) hl (by omega) hc hd
    have l1:(chIn i (List.range' (i+1) (n-i-1)) L).length=n:=by rw [h1.len,← hc.len,hl]
    refine chOut_ok (i:=i+1) (by omega) l1 h1 ?_
    generalize chIn i (List.range' (i+1) (n-i-1)) L=K at l1 h2 ⊢
    rw [← l1] at h2
    exact h2.next
theorem chainZ_ok {L:List Int} (h:∀ x∈L,0<x):Ch L (chainZ L)∧Chain (chainZ L):=by
  have hp:∀ i,i<L.length→0<at' L i:=fun i hi=>by
    have e:at' L i=L[i]:=by simp [at',List.getD,List.getElem?_eq_getElem hi]
    rw [e];exact h _ (List.getElem_mem hi)
  obtain ⟨h1,h2⟩:=chOut_ok (L0:=L) (n:=L.length) (m:=L.length) (i:=0) (by omega) rfl (.refl hp) ⟨fun s hs=>by omega,fun t h1 h2=>by omega⟩
  exact ⟨h1,chain_of _ fun s t hst ht=>h2.1 s (by have:=h1.len;unfold chainZ at ht;omega) t hst ht⟩
def alZ (r:List Int):Bool:=(r.drop (leadZ r+1)).all fun x=>x==0
def qz (r:List Int):Nat × Int:=(leadZ r,at' r (leadZ r))
theorem alZ_iff {r:List Int}:alZ r=true ↔ ∀ j,leadZ r<j→at' r j=0:=by
  unfold alZ
  rw [List.all_eq_true]
  constructor
  · intro h j hj
    rcases Nat.lt_or_ge j r.length with z | z
    · have:=h r[j] (by
        have e:(r.drop (leadZ r+1))[j-leadZ r-1]? = some r[j]:=by
          rw [List.getElem?_drop,show leadZ r+1+(j-leadZ r-1)=j by omega,List.getElem?_eq_getElem z]
        exact List.mem_of_getElem? e)
      have e:at' r j=r[j]:=by simp [at',List.getD,List.getElem?_eq_getElem z]
      rw [e];simpa using this
    · exact at_out z
  · intro h x hx
    obtain ⟨i,hi,e⟩:=List.mem_iff_getElem.mp hx
    rw [List.getElem_drop] at e
    have hl:leadZ r+1+i<r.length:=by simp at hi;omega
    have:=h (leadZ r+1+i) (by omega)
    have e2:at' r (leadZ r+1+i)=r[leadZ r+1+i]:=by simp [at',List.getD,List.getElem?_eq_getElem hl]
    rw [e2,e] at this
    simp [this]
theorem alZ_un {r:List Int} (h:alZ r=true):fv r=un (qz r):=by
  funext j
  show at' r j=if j=leadZ r then at' r (leadZ r) else 0
  split
  · rename_i e;rw [e]
  · rcases Nat.lt_or_ge j (leadZ r) with z | z
    · exact leadZ_zero r j z
    · exact alZ_iff.mp h j (by omega)
theorem leads_sorted:∀ {lo:Nat} {ls:List Nat} {P:List Vec},Pl lo ls P→ls.Nodup∧∀ x∈ls,lo≤x
  | _,[],[],_=>⟨List.nodup_nil,fun x hx=>nomatch hx⟩
  | lo,l::ls,r::P,⟨a,_,_,_,e⟩=>by
    obtain ⟨h1,h2⟩:=leads_sorted e
    refine ⟨List.nodup_cons.mpr ⟨fun hm=>by have:=h2 l hm;omega,h1⟩,fun x hx=>?_⟩
    rcases List.mem_cons.mp hx with rfl | hx
    · exact a
    · have:=h2 x hx;omega
  | _,[],_::_,h=>h.elim
  | _,_::_,[],h=>h.elim
structure Alone (F:List (List Int)):Prop where
  un:(F.map qz).map un=F.map fv
  nd:((F.map qz).map Prod.fst).Nodup
  pos:∀ q∈F.map qz,0<q.2
theorem alone_of {w:Nat} {X F:List (List Int)} (h:IsPl w X F) (ha:F.all alZ=true):Alone F:=by
  obtain ⟨ls,p,q⟩:=h.pl
  have hl:=leads_of p h.len q
  refine ⟨?_,?_,fun x hx=>?_⟩
  · rw [List.map_map]
    exact List.map_congr_left fun r hr=>(alZ_un (List.all_eq_true.mp ha r hr)).symm
  · rw [List.map_map]
    have e:(Prod.fst ∘ qz)=leadZ:=rfl
    rw [e,hl]
    exact (leads_sorted p).1
  · obtain ⟨r,hr,rfl⟩:=List.mem_map.mp hx
    have:=(red_at p h.len q (rem_red (La.fv r) p.ec) r hr)
    show 0<at' r (leadZ r)
    omega
theorem sq_of {r:Nat} {X H:List (List Int)} (h:IsPl r X H) (hl:H.length=r):Sq r (H.map fv):=by
  obtain ⟨ls,p,q⟩:=h.pl
  have:=range_leads p fun x hx=>by rw [List.length_map,hl,Nat.zero_add];exact q x hx
  rw [List.length_map,hl] at this
  subst this
  exact ⟨by rw [List.length_map];exact hl,p,fvs_out h.len⟩
theorem rw_fv {H:List (List Int)} {j:Nat} (hj:j<H.length):rw' (H.map fv) j=fv H[j]:=by
  simp [rw',List.getD,List.getElem?_map,List.getElem?_eq_getElem hj]
theorem sq_lead {r:Nat} {X H:List (List Int)} (h:IsPl r X H) (hl:H.length=r) {j:Nat} (hj:j<H.length):leadZ H[j]=j:=by
  obtain ⟨ls,p,q⟩:=h.pl
  have e:=range_leads p fun x hx=>by rw [List.length_map,hl,Nat.zero_add];exact q x hx
  have l:=leads_of p h.len q
  rw [e,List.length_map] at l
  have:=congrArg (fun (t:List Nat)=>t[j]?) l
  simp only [List.getElem?_map,List.getElem?_eq_getElem hj,Option.map_some] at this
  rw [List.getElem?_range' (by omega)] at this
  simp at this
  exact this
theorem al_iff {r:Nat} {X H:List (List Int)} (h:IsPl r X H) (hl:H.length=r):Al r (H.map fv)↔H.all alZ=true:=by
  constructor
  · intro ha
    refine List.all_eq_true.mpr fun q hq=>alZ_iff.mpr fun j hj=>?_
    obtain ⟨i,hi,rfl⟩:=List.mem_iff_getElem.mp hq
    have:=ha i (by omega) j (by rw [sq_lead h hl hi] at hj;omega)
    rw [rw_fv hi] at this
    exact this
  · intro ha j hj p hp
    have hj':j<H.length:=by omega
    rw [rw_fv hj']
    have:=alZ_un (List.all_eq_true.mp ha H[j] (List.getElem_mem hj'))
    rw [this]
    show (if p=leadZ H[j] then _ else 0)=0
    rw [sq_lead h hl hj',if_neg hp]
inductive EndL (r:Nat):List (List Int)→List (List Int)→Prop
  | done {X H:List (List Int)}:IsPl r X H→H.length=r→H.all alZ=true→EndL r H H
  | turn {X H H' F:List (List Int)}:IsPl r X H→H.length=r→H.all alZ=false→IsPl r (uprZ r H) H'→H'.length=r→EndL r H' F→EndL r H F
theorem to_list {r:Nat} {H:List Vec} (h:∀ q∈H,∀ j,r≤j→q j=0):∃ H0:List (List Int),H0.map fv=H∧(∀ q∈H0,q.length=r)∧H0.length=H.length:=by
  refine ⟨H.map fun q=>(List.range r).map q,?_,fun q hq=>?_,by simp⟩
  · rw [List.map_map]
    conv=>rhs;rw [← List.map_id H]
    exact List.map_congr_left fun q hq=>fv_range (h q hq)
  · obtain ⟨v,_,rfl⟩:=List.mem_map.mp hq
    simp
theorem endL_of {r:Nat} {V F:List Vec} (h:Ends r V F):∀ {X H:List (List Int)},H.map fv=V→IsPl r X H→H.length=r→∃ F0,EndL r H F0:=by
  induction h with
  | done hs ha =>
    intro X H e hp hl
    subst e
    exact ⟨H,.done hp hl ((al_iff hp hl).mp ha)⟩
  | @turn V V' F hs hs' he _ ih =>
    intro X H e hp hl
    subst e
    by_cases ha:H.all alZ=true
    · exact ⟨H,.done hp hl ha⟩
    · obtain ⟨H',e',l',n'⟩:=to_list hs'.out
      have hp':IsPl r (uprZ r H) H':=⟨l',⟨List.range' 0 r,by rw [e'];exact hs'.pl,fun x hx=>by
        obtain ⟨i,hi,rfl⟩:=List.mem_range'.mp hx
        omega⟩,by rw [e',uprZ_fv];exact he⟩
      have hl':H'.length=r:=n'.trans hs'.len
      obtain ⟨F0,hF⟩:=ih e' hp' hl'
      exact ⟨F0,.turn hp hl (by simpa using ha) hp' hl' hF⟩
theorem endL_exists {r:Nat} {X H:List (List Int)} (hp:IsPl r X H) (hl:H.length=r):∃ F,EndL r H F:=by
  obtain ⟨F,hF⟩:=ends_exist (sq_of hp hl)
  exact endL_of hF rfl hp hl
theorem EndL.ends {r:Nat} {H F:List (List Int)} (h:EndL r H F):Ends r (H.map fv) (F.map fv):=by
  induction h with
  | done hp hl ha=>exact .done (sq_of hp hl) ((al_iff hp hl).mpr ha)
  | turn hp hl _ hp' hl' _ ih=>exact .turn (sq_of hp hl) (sq_of hp' hl') (by rw [← uprZ_fv];exact hp'.eqv) ih
theorem EndL.fin {r:Nat} {H F:List (List Int)} (h:EndL r H F):(∃ X,IsPl r X F)∧F.length=r∧F.all alZ=true:=by
  induction h with
  | done hp hl ha=>exact ⟨⟨_,hp⟩,hl,ha⟩
  | turn _ _ _ _ _ _ ih=>exact ih
theorem EndL.first {r:Nat} {H F:List (List Int)} (h:EndL r H F):(∃ X,IsPl r X H)∧H.length=r:=by
  cases h with
  | done hp hl _=>exact ⟨⟨_,hp⟩,hl⟩
  | turn hp hl _ _ _ _=>exact ⟨⟨_,hp⟩,hl⟩
theorem nodup_ix {α:Type}:∀ {l:List α} {i j:Nat} (hi:i<l.length) (hj:j<l.length),l.Nodup→l[i]=l[j]→i=j
  | [],_,_,hi,_,_,_=>by simp at hi
  | a::l,0,0,_,_,_,_=>rfl
  | a::l,0,j+1,_,hj,nd,e=>by
    simp at e hj
    exact absurd (e ▸ List.getElem_mem hj) (List.nodup_cons.mp nd).1
  | a::l,i+1,0,hi,_,nd,e=>by
    simp at e hi
    exact absurd (e ▸ List.getElem_mem hi) (List.nodup_cons.mp nd).1
  | a::l,i+1,j+1,hi,hj,nd,e=>by
    simp at e hi hj
    rw [nodup_ix hi hj (List.nodup_cons.mp nd).2 e]
theorem gr_alone {w:Nat} {rows P:List (List Int)} (hP:IsPl w rows P) (hr:P.length≤4) (ha:P.all alZ=true):Gr P.length (rows.map fv) (chainZ ((P.map qz).map Prod.snd)):=by
  have A:=alone_of hP ha
  obtain ⟨c1,c2⟩:=chainZ_ok (L:=(P.map qz).map Prod.snd) fun x hx=>by
    obtain ⟨q,hq,rfl⟩:=List.mem_map.mp hx
    exact A.pos q hq
  refine Gr.of (w:=w) (P0:=P.map fv) (qs:=P.map qz) hr (by simp) A.nd A.pos c1 c2 (fun k hk d=>by rw [A.un];exact (Dv.congr hP.eqv).symm) hP.eqv.symm fun e he i hi=>?_
  rw [List.length_map] at hi
  have hq:qz P[i]∈P.map qz:=List.mem_map_of_mem (List.getElem_mem hi)
  obtain ⟨m,hm⟩:=he _ hq
  obtain ⟨ls,p,q⟩:=hP.pl
  have hw:leadZ P[i]<w:=(red_at p hP.len q (rem_red (La.fv P[i]) p.ec) P[i] (List.getElem_mem hi)).2.2
  have e1:col (P.map fv) (leadZ P[i])=un (i,at' P[i] (leadZ P[i])):=by
    rw [col_rw]
    funext t
    show rw' (P.map fv) t (leadZ P[i])=if t=i then at' P[i] (leadZ P[i]) else 0
    rcases Nat.lt_or_ge t P.length with z | z
    · rw [rw_fv z]
      split
      · rename_i et;subst et;rfl
      · rename_i et
        rw [alZ_un (List.all_eq_true.mp ha P[t] (List.getElem_mem z))]
        show (if leadZ P[i]=leadZ P[t] then _ else 0)=0
        rw [if_neg fun eq=>et ?_]
        have nd:=A.nd
        rw [List.map_map] at nd
        exact nodup_ix (l:=P.map (Prod.fst ∘ qz)) (by simpa using z) (by simpa using hi) nd (by simp [qz,eq])
    · rw [if_neg (by omega)]
      unfold rw'
      rw [List.getD,List.getElem?_eq_none (by simpa using z)];rfl
  have h1:Sp (cols w (P.map fv)) (un (i,at' P[i] (leadZ P[i]))):=by
    rw [← e1]
    exact .of (List.mem_map_of_mem (List.mem_range.mpr hw))
  have h2:=h1.mul m
  have e2:(fun j=>m*un (i,at' P[i] (leadZ P[i])) j)=un (i,e):=by
    funext j
    simp only [un]
    split
    · rw [hm,Int.mul_comm];rfl
    · simp
  rwa [e2] at h2
theorem endL_units {r:Nat} {H F:List (List Int)} (hE:EndL r H F) {e:Int} (he:∀ q∈F.map qz,q.2∣e):∀ i,i<r→Sp (H.map fv) (un (i,e)):=by
  obtain ⟨⟨X,hF⟩,lF,aF⟩:=hE.fin
  refine hE.ends.units fun i hi=>?_
  have hi':i<F.length:=by omega
  rw [rw_fv hi']
  have:=he (qz F[i]) (List.mem_map_of_mem (List.getElem_mem hi'))
  have e2:(qz F[i]).2=fv F[i] i:=by
    show at' F[i] (leadZ F[i])=at' F[i] i
    rw [sq_lead hF lF hi']
  rwa [e2] at this
theorem gr_turned {w:Nat} {rows P H F:List (List Int)} (hP:IsPl w rows P) (hr:P.length≤4) (hH:IsPl P.length (uprZ w P) H) (hE:EndL P.length H F):Gr P.length (rows.map fv) (chainZ ((F.map qz).map Prod.snd)):=by
  obtain ⟨⟨X,hF⟩,lF,aF⟩:=hE.fin
  have A:=alone_of hF aF
  obtain ⟨c1,c2⟩:=chainZ_ok (L:=(F.map qz).map Prod.snd) fun x hx=>by
    obtain ⟨q,hq,rfl⟩:=List.mem_map.mp hx
    exact A.pos q hq
  have eH:Eqv (H.map fv) (cols w (P.map fv)):=by rw [← uprZ_fv];exact hH.eqv
  refine Gr.of (w:=w) (P0:=P.map fv) (qs:=F.map qz) hr (by simpa using lF) A.nd A.pos c1 c2 (fun k hk d=>?_) hP.eqv.symm fun e he i hi=>?_
  · rw [A.un,← hE.ends.dv hk,Dv.congr eH,Dv.turn hk (fvs_out hP.len),Dv.congr hP.eqv]
  · exact (eH _).mp (endL_units hE he i (by simpa using hi))
theorem turned_len {w:Nat} {rows P H:List (List Int)} (hP:IsPl w rows P) (hH:IsPl P.length (uprZ w P) H):H.length=P.length:=by
  obtain ⟨ls,p,q⟩:=hP.pl
  obtain ⟨lh,ph,qh⟩:=hH.pl
  have:=turn_count p (fvs_out hP.len) ph (by rw [← uprZ_fv];exact hH.eqv)
  rwa [List.length_map,List.length_map] at this
def unE (e:Int) (lo n:Nat):List Vec:=(List.range' lo n).map fun i=>un (i,e)
theorem unE_pl {e:Int} (he:0<e):∀ (n lo:Nat),Pl lo (List.range' lo n) (unE e lo n)
  | 0,lo=>by simp [unE,Pl]
  | n+1,lo=>by
    unfold unE
    rw [List.range'_succ,List.map_cons]
    have ih:=unE_pl he n (lo+1)
    refine ⟨Nat.le_refl _,fun i hi=>by simp [un];omega,by simp [un];exact he,red_zero ih.ec fun x hx=>?_,ih⟩
    obtain ⟨i,hi,rfl⟩:=List.mem_range'.mp hx
    simp [un];omega
theorem sp_unE {e:Int} {v:Vec}:∀ {n lo:Nat},(∀ j,(j<lo∨lo+n≤j)→v j=0)→Sp (unE e lo n) (fun j=>e*v j)
  | 0,lo,h=>by
    have:(fun j=>e*v j)=zV:=by funext j;rw [h j (by omega)];simp [zV]
    rw [this];exact .zero
  | n+1,lo,h=>by
    have h1:=sp_unE (e:=e) (v:=fun j=>if j=lo then 0 else v j) (n:=n) (lo:=lo+1) fun j hj=>by
      show (if j=lo then 0 else v j)=0
      split
      · rfl
      · exact h j (by omega)
    have h2:Sp (unE e lo (n+1)) (fun j=>e*if j=lo then 0 else v j):=h1.mono fun r hr=>by
      unfold unE
      rw [List.range'_succ,List.map_cons]
      exact List.mem_cons_of_mem _ hr
    have h3:Sp (unE e lo (n+1)) (un (lo,e)):=.of (by
      unfold unE
      rw [List.range'_succ,List.map_cons]
      exact List.mem_cons_self)
    have:=h2.axs (v lo) h3
    have e2:ax (fun j=>e*if j=lo then 0 else v j) (v lo) (un (lo,e))=fun j=>e*v j:=by
      funext j
      simp only [ax,un]
      split
      · rename_i ej;subst ej;rw [Int.mul_comm (v j)];omega
      · omega
    rwa [e2] at this
theorem sq_bd {r M:Nat} {H:List Vec} {e:Int} (he:0<e) (hM:e.natAbs≤M) (hs:Sq r H) (hu:∀ i,i<r→Sp H (un (i,e))):∀ q∈H,∀ j,(q j).natAbs≤2 ^ r*M:=by
  have hE:=unE_pl he r 0
  have h1:∀ v,Sp (unE e 0 r) v→Sp H v:=fun v hv=>hv.le fun q hq=>by
    obtain ⟨i,hi,rfl⟩:=List.mem_map.mp hq
    obtain ⟨t,ht,rfl⟩:=List.mem_range'.mp hi
    exact hu _ (by omega)
  have h2:∀ v,Sp H v→∃ k:Int,k≠0∧Sp (unE e 0 r) (fun j=>k*v j):=fun v hv=>⟨e,by omega,sp_unE fun j hj=>hv.at0 fun q hq=>hs.out q hq j (by omega)⟩
  obtain ⟨_,g⟩:=hE.ec.over hs.pl.ec h1 h2
  intro q hq j
  have rd:=rows_le hs.pl hE.ec g q hq
  have h3:Sp (unE e 0 r) (fun j=>(e.natAbs:Int)*q j):=by
    rw [Int.natAbs_of_nonneg (by omega)]
    exact sp_unE fun j hj=>hs.out q hq j (by omega)
  have:=over_sp (M:=M) e.natAbs hE h3 (rd.scale (k:=e.natAbs) (t:=0)) (fun a ha j=>by
    obtain ⟨i,_,rfl⟩:=List.mem_map.mp ha
    simp only [un]
    split
    · exact hM
    · simp) j
  have ln:(unE e 0 r).length=r:=by simp [unE]
  rw [Int.natAbs_mul,Int.natAbs_natCast,ln] at this
  have h4:e.natAbs*(q j).natAbs≤e.natAbs*(2 ^ r*M):=by omega
  exact Nat.le_of_mul_le_mul_left h4 (by omega)
theorem turned_bd {b r:Nat} {L:List Vec} {H F:List (List Int)} (hr:r≤4) (hL:∀ v∈L,∀ j,(v j).natAbs≤2 ^ b) (g:Gr r L (chainZ ((F.map qz).map Prod.snd))) (hE:EndL r H F):Bd (4*b+12) H:=by
  obtain ⟨⟨X,hF⟩,lF,aF⟩:=hE.fin
  have A:=alone_of hF aF
  obtain ⟨c1,c2⟩:=chainZ_ok (L:=(F.map qz).map Prod.snd) fun x hx=>by
    obtain ⟨q,hq,rfl⟩:=List.mem_map.mp hx
    exact A.pos q hq
  have hp:=prod_pos g.pos
  have hsz:=g.size hr hL
  have dv:∀ {gs:List Int} {x:Int},x∈gs→x∣prod gs:=by
    intro gs
    induction gs with
    | nil=>intro x hx;exact nomatch hx
    | cons a t ih =>
      intro x hx
      rcases List.mem_cons.mp hx with rfl | hx
      · exact Int.dvd_mul_right _ _
      · exact Int.dvd_trans (ih hx) (Int.dvd_mul_left _ _)
  have hu:=endL_units hE (e:=prod (chainZ ((F.map qz).map Prod.snd))) fun q hq=>by
    obtain ⟨i,hi,e1⟩:=List.mem_iff_getElem.mp hq
    have:=c1.up (prod (chainZ ((F.map qz).map Prod.snd))) (fun i hi=>dv (by
      generalize chainZ ((F.map qz).map Prod.snd)=G at hi ⊢
      have e2:at' G i=G[i]:=by simp only [at',List.getD,List.getElem?_eq_getElem hi,Option.getD_some]
      rw [e2];exact List.getElem_mem hi)) i (by rw [c1.len,List.length_map];exact hi)
    have e3:at' ((F.map qz).map Prod.snd) i=q.2:=by
      have:((F.map qz).map Prod.snd)[i]? = some q.2:=by rw [List.getElem?_map,List.getElem?_eq_getElem hi,e1];rfl
      simp only [at',List.getD,this,Option.getD_some]
    rwa [e3] at this
  obtain ⟨⟨Y,hH⟩,lH⟩:=hE.first
  have:=sq_bd hp hsz (sq_of hH lH) hu
  intro q hq j
  refine Nat.le_trans (this (fv q) (List.mem_map_of_mem hq) j) ?_
  have e4:(4*2 ^ b) ^ r=2 ^ (r*(b+2)):=by
    rw [show (4:Nat)=2 ^ 2 from rfl,← Nat.pow_add,← Nat.pow_mul]
    congr 1
    rw [Nat.mul_comm,Nat.add_comm 2 b]
  rw [e4,← Nat.pow_add]
  refine Nat.pow_le_pow_right (by decide) ?_
  have:r*(b+2)≤4*(b+2):=Nat.mul_le_mul_right _ hr
  omega
end La
set_option linter.all false
namespace La
theorem gcd_facts' {a b:Int} (ha:0<a):0<gcdZ a b∧a=a.fdiv (gcdZ a b)*gcdZ a b∧b=b.fdiv (gcdZ a b)*gcdZ a b∧0<a.fdiv (gcdZ a b):=by
  have g1:gcdZ a b∣a:=Int.gcd_dvd_left ..
  have g2:gcdZ a b∣b:=Int.gcd_dvd_right ..
  have gp:0<gcdZ a b:=by
    have:Int.gcd a b≠0:=fun h=>by
      have:=(Int.gcd_eq_zero_iff.mp h).1
      omega
    unfold gcdZ;omega
  have dv:∀ {x:Int},gcdZ a b∣x→x=x.fdiv (gcdZ a b)*gcdZ a b:=fun {x} h=>by
    obtain ⟨u,hu⟩:=h
    have hd:x.fdiv (gcdZ a b)=u:=by
      rw [Int.fdiv_eq_ediv_of_nonneg _ (by omega)]
      exact Int.ediv_eq_of_eq_mul_right (by omega) hu
    rw [hd,Int.mul_comm];exact hu
  have e:=dv g1
  refine ⟨gp,e,dv g2,?_⟩
  rcases Int.lt_or_le 0 (a.fdiv (gcdZ a b)) with z | z
  · exact z
  · have:=Int.mul_nonneg (show 0≤gcdZ a b by omega) (show 0 ≤ -a.fdiv (gcdZ a b) by omega)
    rw [Int.mul_neg,Int.mul_comm] at this
    omega
theorem dot_unit {w l m:Nat} (h:l<w) (v:Vec):dot w (fv (unitZ m l)) v=v l:=by
  have e:dot w (fv (unitZ m l)) v=dot w v (fv (unitZ m l)):=dot_comm w _ _
  have key:∀ n,dot n (fv (unitZ m l)) v=if l<n then v l else 0:=by
    intro n
    induction n with
    | zero=>rfl
    | succ n ih =>
      simp only [dot,ih]
      have e1:fv (unitZ m l) n=if n=l then 1 else 0:=at_unitZ m l n
      rw [e1]
      rcases Nat.lt_trichotomy l n with z | z | z
      · rw [if_pos z,if_neg (show ¬ n=l by omega),if_pos (by omega)];simp
      · subst z
        rw [if_neg (by omega),if_pos rfl,if_pos (by omega)];simp
      · rw [if_neg (by omega),if_neg (by omega),if_neg (by omega)];simp
  rw [key,if_pos h]
structure PrI (w pc:Nat) (done:List (List Int)) (d0 F:Int) (nb:List Int) (dv:Int):Prop where
  len:nb.length=w
  top:∀ j,pc<j→at' nb j=0
  mid:at' nb pc=F
  pos:0<F
  dv:dv=F*d0
  zero:∀ r∈done,dot w (fv nb) (fv r)=0
def raiseZ (nb:List Int) (u:Int):List Int:=nb.map fun x=>x*u
theorem at_raiseZ (nb:List Int) (u:Int) (j:Nat):at' (raiseZ nb u) j=at' nb j*u:=by
  simp only [at',raiseZ,List.getD,List.getElem?_map]
  cases nb[j]?<;>simp
theorem PrI.start {w pc:Nat} (h:pc<w) (d0:Int):PrI w pc [] d0 1 (unitZ w pc) d0 :=
  ⟨unitZ_len h,fun j hj=>by rw [at_unitZ,if_neg (by omega)],by rw [at_unitZ,if_pos rfl],by decide,by omega,fun r hr=>nomatch hr⟩
def nextNb (w:Nat) (nb r:List Int):List Int:=subZ (raiseZ nb ((at' r (leadZ r)).fdiv (gcdZ (at' r (leadZ r)) (dot w (fv nb) (fv r))))) ((dot w (fv nb) (fv r)).fdiv (gcdZ (at' r (leadZ r)) (dot w (fv nb) (fv r)))) (unitZ w (leadZ r))
theorem PrI.step {w pc:Nat} {done:List (List Int)} {d0 F dv:Int} {nb r:List Int} (h:PrI w pc done d0 F nb dv) (hr:r.length=w) (hl:leadZ r<pc) (hp:pc<w) (ha:0<at' r (leadZ r)) (hd:∀ q∈done,at' q (leadZ r)=0) :
    PrI w pc (r::done) d0 (F*(at' r (leadZ r)).fdiv (gcdZ (at' r (leadZ r)) (dot w (fv nb) (fv r)))) (nextNb w nb r) (dv*(at' r (leadZ r)).fdiv (gcdZ (at' r (leadZ r)) (dot w (fv nb) (fv r)))):=by
  obtain ⟨g1,g2,g3,g4⟩:=gcd_facts' (b:=dot w (fv nb) (fv r)) ha
  generalize hoff:dot w (fv nb) (fv r)=off at g1 g2 g3 g4 ⊢
  generalize hu:(at' r (leadZ r)).fdiv (gcdZ (at' r (leadZ r)) off)=u at g2 g4 ⊢
  generalize ht:off.fdiv (gcdZ (at' r (leadZ r)) off)=t at g3
  generalize hg:gcdZ (at' r (leadZ r)) off=g at g1 g2 g3
  have lu:(unitZ w (leadZ r)).length=w:=unitZ_len (by omega)
  have lr:(raiseZ nb u).length=(unitZ w (leadZ r)).length:=by rw [lu];simp [raiseZ,h.len]
  have en:nextNb w nb r=subZ (raiseZ nb u) t (unitZ w (leadZ r)):=by unfold nextNb;rw [hoff,hu,ht]
  rw [en]
  have at_n:∀ j,at' (subZ (raiseZ nb u) t (unitZ w (leadZ r))) j=at' nb j*u-t*(if j=leadZ r then 1 else 0):=fun j=>by rw [at_subZ lr,at_raiseZ,at_unitZ]
  have dt:∀ v:Vec,dot w (fv (subZ (raiseZ nb u) t (unitZ w (leadZ r)))) v=u*dot w (fv nb) v-t*v (leadZ r):=fun v=>by
    have e:fv (subZ (raiseZ nb u) t (unitZ w (leadZ r)))=ax (fun j=>u*fv nb j) (-t) (fv (unitZ w (leadZ r))):=by
      funext j
      show at' _ j=u*at' nb j + -t*at' _ j
      rw [at_n,at_unitZ,Int.mul_comm u]
      grind
    rw [e,dot_ax,dot_unit (by omega),dot_comm,dot_mul,dot_comm]
    grind
  refine ⟨by rw [subZ_len lr,lr,lu],fun j hj=>?_,?_,Int.mul_pos h.pos g4,by rw [h.dv];grind,fun q hq=>?_⟩
  · rw [at_n,h.top j hj,if_neg (by omega)];simp
  · rw [at_n,h.mid,if_neg (by omega)];omega
  · rw [dt]
    rcases List.mem_cons.mp hq with rfl | hq
    · rw [hoff]
      show u*off-t*at' q (leadZ q)=0
      rw [g2]
      conv=>lhs;lhs;rw [g3]
      grind
    · rw [h.zero q hq]
      show u*0-t*at' q (leadZ r)=0
      rw [hd q hq];simp
theorem Pk.beyond:∀ {s:List Int} {m:Nat} {c d:Int},s.length<m→Pk s m c d
  | [],m+1,_,_,_=>trivial
  | [],0,_,_,h=>by simp at h
  | a::s,0,_,_,h=>by simp at h
  | a::s,m+1,_,_,h=>⟨Pk.beyond (by simpa using h),Pk.beyond (by simp at h;omega)⟩
theorem Pk.full:∀ {s:List Int} {c d:Int},Pk s s.length c d↔d∣c*prod s
  | [],c,d=>by rw [List.length_nil,Pk.zero];simp [prod]
  | a::s,c,d=>by
    rw [List.length_cons]
    show Pk s s.length (c*a) d∧Pk s (s.length+1) c d↔_
    rw [Pk.full]
    simp only [prod]
    rw [Int.mul_assoc]
    exact ⟨fun h=>h.1,fun h=>⟨h,Pk.beyond (Nat.lt_succ_self _)⟩⟩
theorem mem_dvd_prod:∀ {gs:List Int} {x:Int},x∈gs→x∣prod gs
  | a::t,x,hx=>by
    rcases List.mem_cons.mp hx with rfl | hx
    · exact Int.dvd_mul_right _ _
    · exact Int.dvd_trans (mem_dvd_prod hx) (Int.dvd_mul_left _ _)
theorem Ch.bd {L0 L:List Int} {S:Nat} (h:Ch L0 L) (hp:∀ x∈L0,0<x) (hS:(prod L0).natAbs≤2 ^ S) (i:Nat):(at' L i).natAbs≤2 ^ S:=by
  rcases Nat.lt_or_ge i L.length with z | z
  · have e:at' L i=L[i]:=by simp [at',List.getD,List.getElem?_eq_getElem z]
    have h1:at' L i∣prod L:=by rw [e];exact mem_dvd_prod (List.getElem_mem z)
    have h2:at' L i∣prod L0:=by
      have:=h.pk (k:=L0.length) (c:=1) (d:=at' L i)
      rw [Pk.full,← h.len,Pk.full,Int.one_mul,Int.one_mul] at this
      exact this.mpr h1
    have p:=prod_pos hp
    have:=Nat.le_of_dvd (by omega) (Int.natAbs_dvd_natAbs.mpr h2)
    omega
  · rw [at_out z];exact Nat.zero_le _
end La
set_option linter.all false
namespace La
end La
set_option Elab.async false
set_option linter.all false
set_option maxRecDepth 100000
namespace L2
open PySem PySem.SeqAt PyProof.Rows
open AutoSeq1 (wpAny_loadPart')
theorem tuple_mulW1 (l:Addr) (items:Array Value) (n:Nat) (dd:Option Addr) (sl:Array (Option Value)) (u:Tok) :
    Meets (Builtin.«tuple.__mul__» ⟨[.ref l,.int 1 u],[]⟩) (fun _ R s=>s.heap.get? l=some { cls:=.type "tuple", dict:=dd,data:=.seq items n,slots:=sl }∧R (.ok (.ret (Value.ref l))) { s with heap:=s.heap,toks:=s.toks }) :=
  .of_wp fun prog w A R s h=>by
    obtain ⟨hp,g,d,tk,os⟩:=s;obtain ⟨hl,h⟩:=h
    have f1:=AutoSeq1.idx_int
    have hc0:(items.isEmpty || (1:Int)==1)=true:=by simp
    wp_walk using wpAny_loadPart' hl;exact ⟨_,rfl,h⟩
theorem tuple_mulW0 (l:Addr) (items:Array Value) (n:Nat) (dd:Option Addr) (sl:Array (Option Value)) (x:Int) (u:Tok) (hx:x≤0) (hf:¬ (x < -(2 ^ 63) || x≥2 ^ 63)=true) (hi:items.isEmpty=false) :
    Meets (Builtin.«tuple.__mul__» ⟨[.ref l,.int x u],[]⟩) (fun _ R s=>s.heap.get? l=some { cls:=.type "tuple", dict:=dd,data:=.seq items n,slots:=sl }∧R (.ok (.ret (Value.ref s.heap.objs.size))) { s with heap:=s.heap.push { cls:=Value.type "tuple", data:=Data.seq #[] },toks:=s.toks }) :=
  .of_wp fun prog w A R s h=>by
    obtain ⟨hp,g,d,tk,os⟩:=s;obtain ⟨hl,h⟩:=h
    have f1:=AutoSeq1.idx_int
    have hc0:¬ (items.isEmpty || x==1)=true:=by simp [hi];omega
    have hc1:(decide (x≤0) || items.isEmpty)=true:=by simp [hx]
    wp_walk using wpAny_loadPart' hl;refine wpAny_ite_false (decide_eq_false hf) ?_;wp_walk using wpAny_loadPart' hl;refine wpAny_ite_false (decide_eq_false hc0) ?_;wp_walk using wpAny_loadPart' hl;exact ⟨_,rfl,h⟩
theorem tuple_mulW2 (l:Addr) (items:Array Value) (n:Nat) (dd:Option Addr) (sl:Array (Option Value)) (x:Int) (u:Tok) (hx:2≤x) (hf:¬ (x < -(2 ^ 63) || x≥2 ^ 63)=true) (hi:items.isEmpty=false) (hc2:¬ (items.size:Int)*x > (2 ^ 63-1) / 8) (hc3:¬ Builtin.Tuple.tupleTooMany (items.size*x)=true) (hsz:(List.foldl (fun x1 x2=>x1++x2) #[] (List.replicate x.toNat items)).size≤sizeLine) :
    Meets (Builtin.«tuple.__mul__» ⟨[.ref l,.int x u],[]⟩) (fun _ R s=>s.heap.get? l=some { cls:=.type "tuple", dict:=dd,data:=.seq items n,slots:=sl }∧R (.ok (.ret (Value.ref s.heap.objs.size))) { s with heap:=s.heap.push { cls:=Value.type "tuple", data:=Data.seq (List.foldl (fun x1 x2=>x1++x2) #[] (List.replicate x.toNat items)) },toks:=s.toks }) :=
  .of_wp fun prog w A R s h=>by
    obtain ⟨hp,g,d,tk,os⟩:=s;obtain ⟨hl,h⟩:=h
    have f1:=AutoSeq1.idx_int
    have hc0:¬ (items.isEmpty || x==1)=true:=by simp [hi];omega
    have hc1:¬ (decide (x≤0) || items.isEmpty)=true:=by simp [hi];omega
    wp_walk using wpAny_loadPart' hl;refine wpAny_ite_false (decide_eq_false hf) ?_;wp_walk using wpAny_loadPart' hl;refine wpAny_ite_false (decide_eq_false hc0) ?_;wp_walk using wpAny_loadPart' hl;refine wpAny_ite_false (decide_eq_false hc1) ?_;wp_walk using wpAny_loadPart' hl;refine wpAny_ite_false (decide_eq_false hc2) ?_;wp_walk using wpAny_loadPart' hl;(try refine wpAny_ite_false (decide_eq_false hc3) ?_);wp_walk using wpAny_loadPart' hl;(try (refine wpAny_ite_false (decide_eq_false (Nat.not_lt.mpr hsz)) ?_;wp_walk using wpAny_loadPart' hl;skip));exact ⟨_,rfl,h⟩
theorem noFill_tuple_mul:fillsNumberSlot (.type "tuple") "mul" = pure false :=
  PySem.fillsNumberSlot_seq (id := "tuple.__mul__") (r:=some (.builtin "tuple.__rmul__")) PySem.F.slot_tuple_mul.lookup (by decide +kernel) PySem.F.slot_tuple_rmul.lookup (by decide +kernel)
theorem repeat_tuple:seqRepeat? (.type "tuple")=pure (some (.builtin "tuple.__mul__")):=by
  unfold seqRepeat?
  rw [PySem.seqSlot_of (T := "tuple") (name := "__mul__") (id := "tuple.__mul__") PySem.F.slot_tuple_mul.lookup (by decide +kernel),PySem.seqSlot_of (T := "tuple") (name := "__rmul__") (id := "tuple.__rmul__") PySem.F.slot_tuple_rmul.lookup (by decide +kernel)]
  rfl
theorem int_rmul_tuple (a:Int) (t:Tok) (l:Addr) (items:Array Value) (n:Nat) (dd:Option Addr) (sl:Array (Option Value)) :
    Meets (Builtin.«int.__rmul__» ⟨[.int a t,.ref l],[]⟩) (fun _ R s=>s.heap.get? l=some { cls:=.type "tuple", dict:=dd,data:=.seq items n,slots:=sl }∧R (.ok (.ret Value.notImplemented)) s) :=
  .of_wp fun prog w A R s h=>by obtain ⟨hp,g,d,tk,os⟩:=s;obtain ⟨hl,h⟩:=h;wp_walk;exact ⟨_,rfl,h⟩
section
variable {prog:Program} {w:World} {A:Around} {E:Value→Shared→Prop} {s:Shared}
theorem foldl_flat (its:List Value) (m:Nat):List.foldl (fun x1 x2=>x1++x2) #[] (List.replicate m its.toArray)=(List.replicate m its).flatten.toArray:=by
  have f:∀ (m:Nat) (acc:List Value),List.foldl (fun x1 x2=>x1++x2) acc.toArray (List.replicate m its.toArray)=(acc++(List.replicate m its).flatten).toArray:=by
    intro m
    induction m with
    | zero=>intro acc;simp
    | succ m ih =>
      intro acc
      rw [List.replicate_succ,List.replicate_succ,List.foldl_cons,List.flatten_cons]
      have e:acc.toArray++its.toArray=(acc++its).toArray:=by simp
      rw [e,ih]
      simp
  have:=f m []
  rwa [List.nil_append] at this
theorem rep_tupT {t:Addr} {vs:List Value} {k:Int} {u:Tok} {Q:Value→Shared→Prop} (ht:IsTup s.heap t vs.toArray) (hv:vs≠[]) (h1:-(2 ^ 63)≤k) (h2:k<2 ^ 63) (hz:vs.length*k.toNat≤sizeLine)
    (q1:k=1→Q (.ref t) s) (q2:k≠1→Q (.ref s.heap.objs.size) { s with heap:=s.heap.push { cls:=.type "tuple", data:=.seq (List.replicate k.toNat vs).flatten.toArray } }) :
    wpAny (model prog w) A (binaryOp .Mult (.ref t) (.int k u)) Q E s:=by
  obtain ⟨⟨cls,dd,data,sl⟩,ho,hc,n,hd⟩:=id ht
  simp only at hc hd
  subst hc hd
  have hi:vs.toArray.isEmpty=false:=by
    cases vs with
    | nil=>exact absurd rfl hv
    | cons a r=>simp
  have hf:¬ (k < -(2 ^ 63) || k≥2 ^ 63)=true:=by simp;omega
  refine wpAny_binaryOp_repeat_ref (T := "tuple") (U := "int") (by decide) ⟨_,ho,rfl⟩ (fun s'=>typeIs_int s' k u) noFill_tuple_mul PySem.F.fills_int_mul PySem.F.slot_int_rmul repeat_tuple PySem.F.slot_int_index.lookup
    (call_meets PySem.F.slot_int_rmul (typeIs_int s k u) PySem.F.entry_int_rmul (PySem.F.args_int_rmul_2 _ _) (int_rmul_tuple k u t vs.toArray n dd sl) ⟨ho,rfl,⟨_,ho,rfl⟩,?_⟩)
  by_cases e1:k=1
  · subst e1
    exact call_meets PySem.F.slot_tuple_mul ⟨_,ho,rfl⟩ PySem.F.entry_tuple_mul (PySem.F.args_tuple_mul_2 _ _) (tuple_mulW1 t vs.toArray n dd sl u) ⟨ho,q1 rfl⟩
  · rcases Int.lt_or_le 0 k with z | z
    · have kn:(k.toNat:Int)=k:=Int.toNat_of_nonneg (by omega)
      have hm:(vs.toArray.size:Int)*k=((vs.length*k.toNat:Nat):Int):=by rw [Int.natCast_mul,kn];simp
      have sl':(sizeLine:Nat)≤(2 ^ 63-1) / 8:=by decide
      refine call_meets PySem.F.slot_tuple_mul ⟨_,ho,rfl⟩ PySem.F.entry_tuple_mul (PySem.F.args_tuple_mul_2 _ _) (tuple_mulW2 t vs.toArray n dd sl k u (by omega) hf hi (by rw [hm];omega) (by
        unfold Builtin.Tuple.tupleTooMany
        rw [hm]
        simp only [decide_eq_true_eq]
        omega) (by
        rw [foldl_flat,List.size_toArray]
        have:∀ m,(List.replicate m vs).flatten.length=m*vs.length:=fun m=>by simp
        rw [this,Nat.mul_comm];exact hz)) ⟨ho,?_⟩
      rw [foldl_flat]
      exact q2 e1
    · refine call_meets PySem.F.slot_tuple_mul ⟨_,ho,rfl⟩ PySem.F.entry_tuple_mul (PySem.F.args_tuple_mul_2 _ _) (tuple_mulW0 t vs.toArray n dd sl k u z hf hi) ⟨ho,?_⟩
      have e0:k.toNat=0:=by omega
      have:=q2 e1
      rw [e0] at this
      simpa using this
end
end L2
namespace L2
open PySem PySem.Spec PyProof.Rows
section
variable {X:Cx}
def rRepT (K:PySem.W.Frag):R2:=fun x y H Q=>∃ a k xs,x = .ref a∧y = .int k∧SqT K H a xs∧xs≠[]∧-(2 ^ 63)≤k∧k<2 ^ 63∧xs.length*k.toNat≤sizeLine ∧
  (k=1→Q (.ref a) H)∧(k≠1→∀ p,H p=none→Q (.ref p) (upd H p (.tup (List.replicate k.toNat xs).flatten)))
theorem op_repT:OpR X (binaryOp .Mult) (rRepT X.K):=by
  intro pins s σ H x y v u Q I rx ry h
  obtain ⟨a,k,xs,rfl,rfl,ha,hx,h1,h2,hz,q1,q2⟩:=h
  cases rx
  obtain ⟨t,rfl⟩:=ry
  obtain ⟨its,r1,p1,_⟩:=I.tuple ha
  refine rep_tupT p1 (fun z=>hx (r1.nil_iff.mp z)) h1 h2 (by rw [← r1.length];exact hz) (fun e=>⟨.ref a,H,I,rfl,q1 e⟩) fun e=>?_
  refine ⟨.ref s.heap.objs.size,_,I.laid (t':=s.toks) (o:=.tup (List.replicate k.toNat xs).flatten) (fun b ob q=>Heap.get?_push_of_some _ q) (Nat.le_refl _) ?_,rfl,q2 e _ (I.hok.fresh (Nat.le_refl _))⟩
  exact ⟨by rw [len_rep,Nat.mul_comm];exact hz,_,r1.rep k.toNat,IsTup.new _ _⟩
end
end L2
set_option Elab.async false
set_option linter.all false
set_option maxRecDepth 100000
namespace L2
open PySem PySem.Spec PyProof.Rows
inductive D where
  | non | bl (b:Bool) | int (i:Int) | str (x:Str) | ty (n:String) | tup (xs:List D) | lst (xs:List D) | fro (xs:List D)
def SqF (K:PySem.W.Frag) (H:Hp) (a:Addr) (xs:List V):Prop :=
  (∃ o,H a=some (.frz o (.lst xs))) ∨
    ∃ (o:Obj) (its:Array Value) (n:Nat),K.lookup a=some o∧o.cls = .type "list" ∧ o.dict=none∧o.data = .seq its n∧its.size≤sizeLine∧Vals xs its.toList
theorem SqF.sq {K:PySem.W.Frag} {H:Hp} {a:Addr} {xs:List V} (h:SqF K H a xs):SqL K H a xs:=by
  rcases h with h | h
  · exact .inl (.inr h)
  · exact .inr h
mutual
def Rep (K:PySem.W.Frag) (H:Hp):D→V→Prop
  | .non,v=>v = .non
  | .bl b,v=>v = .bl b
  | .int i,v=>v = .int i
  | .str x,v=>v = .str x
  | .ty n,v=>v = .ty n
  | .tup ds,v=>∃ a xs,v = .ref a∧H a=some (.tup xs)∧Reps K H ds xs
  | .lst ds,v=>∃ a xs,v = .ref a∧H a=some (.lst xs)∧Reps K H ds xs
  | .fro ds,v=>∃ a xs,v = .ref a∧SqF K H a xs∧Reps K H ds xs
def Reps (K:PySem.W.Frag) (H:Hp):List D→List V→Prop
  | [],vs=>vs=[]
  | d::ds,vs=>∃ v r,vs=v::r∧Rep K H d v∧Reps K H ds r
end
section
variable {K:PySem.W.Frag} {H H' H1 H2:Hp}
theorem SqF.mono {a:Addr} {xs:List V} (s:Same H H') (h:SqF K H a xs):SqF K H' a xs:=by
  rcases h with ⟨o,h⟩ | h
  · exact .inl ⟨o,s _ _ h⟩
  · exact .inr h
mutual
theorem Rep.mono (s:Same H H'):∀ {d:D} {v:V},Rep K H d v→Rep K H' d v
  | .non,_,h=>by simpa only [Rep] using h
  | .bl _,_,h=>by simpa only [Rep] using h
  | .int _,_,h=>by simpa only [Rep] using h
  | .str _,_,h=>by simpa only [Rep] using h
  | .ty _,_,h=>by simpa only [Rep] using h
  | .tup ds,_,h=>by
    simp only [Rep] at h ⊢
    obtain ⟨a,xs,e,q,r⟩:=h
    exact ⟨a,xs,e,s _ _ q,Reps.mono s r⟩
  | .lst ds,_,h=>by
    simp only [Rep] at h ⊢
    obtain ⟨a,xs,e,q,r⟩:=h
    exact ⟨a,xs,e,s _ _ q,Reps.mono s r⟩
  | .fro ds,_,h=>by
    simp only [Rep] at h ⊢
    obtain ⟨a,xs,e,q,r⟩:=h
    exact ⟨a,xs,e,q.mono s,Reps.mono s r⟩
theorem Reps.mono (s:Same H H'):∀ {ds:List D} {vs:List V},Reps K H ds vs→Reps K H' ds vs
  | [],_,h=>by simpa only [Reps] using h
  | d::ds,_,h=>by
    simp only [Reps] at h ⊢
    obtain ⟨v,r,e,q,t⟩:=h
    exact ⟨v,r,e,Rep.mono s q,Reps.mono s t⟩
end
theorem rep_non:Rep K H .non .non:=by simp only [Rep]
theorem rep_bl {b:Bool}:Rep K H (.bl b) (.bl b):=by simp only [Rep]
theorem rep_int {i:Int}:Rep K H (.int i) (.int i):=by simp only [Rep]
theorem rep_ty {n:String}:Rep K H (.ty n) (.ty n):=by simp only [Rep]
theorem Rep.ty_of {n:String} {v:V} (h:Rep K H (.ty n) v):v = .ty n:=by simpa only [Rep] using h
theorem rep_tup {a:Addr} {xs:List V} {ds:List D} (h:H a=some (.tup xs)) (r:Reps K H ds xs):Rep K H (.tup ds) (.ref a):=by
  simp only [Rep];exact ⟨a,xs,rfl,h,r⟩
theorem rep_lst {a:Addr} {xs:List V} {ds:List D} (h:H a=some (.lst xs)) (r:Reps K H ds xs):Rep K H (.lst ds) (.ref a):=by
  simp only [Rep];exact ⟨a,xs,rfl,h,r⟩
theorem rep_fro {a:Addr} {xs:List V} {ds:List D} (h:SqF K H a xs) (r:Reps K H ds xs):Rep K H (.fro ds) (.ref a):=by
  simp only [Rep];exact ⟨a,xs,rfl,h,r⟩
theorem Rep.int_of {i:Int} {v:V} (h:Rep K H (.int i) v):v = .int i:=by simpa only [Rep] using h
theorem Rep.bl_of {b:Bool} {v:V} (h:Rep K H (.bl b) v):v = .bl b:=by simpa only [Rep] using h
theorem Rep.non_of {v:V} (h:Rep K H .non v):v = .non:=by simpa only [Rep] using h
theorem Rep.str_of {x:Str} {v:V} (h:Rep K H (.str x) v):v = .str x:=by simpa only [Rep] using h
theorem Rep.tup_of {ds:List D} {v:V} (h:Rep K H (.tup ds) v):∃ a xs,v = .ref a∧H a=some (.tup xs)∧Reps K H ds xs:=by simpa only [Rep] using h
theorem Rep.lst_of {ds:List D} {v:V} (h:Rep K H (.lst ds) v):∃ a xs,v = .ref a∧H a=some (.lst xs)∧Reps K H ds xs:=by simpa only [Rep] using h
theorem Rep.fro_of {ds:List D} {v:V} (h:Rep K H (.fro ds) v):∃ a xs,v = .ref a∧SqF K H a xs∧Reps K H ds xs:=by simpa only [Rep] using h
theorem reps_nil:Reps K H [] []:=by simp only [Reps]
theorem reps_cons {d:D} {ds:List D} {v:V} {vs:List V} (h:Rep K H d v) (t:Reps K H ds vs):Reps K H (d::ds) (v::vs):=by
  simp only [Reps];exact ⟨v,vs,rfl,h,t⟩
theorem Reps.nil_of {vs:List V} (h:Reps K H [] vs):vs=[]:=by simpa only [Reps] using h
theorem Reps.cons_of {d:D} {ds:List D} {vs:List V} (h:Reps K H (d::ds) vs):∃ v r,vs=v::r∧Rep K H d v∧Reps K H ds r:=by simpa only [Reps] using h
theorem Reps.length:∀ {ds:List D} {vs:List V},Reps K H ds vs→vs.length=ds.length
  | [],_,h=>by rw [h.nil_of];rfl
  | d::ds,_,h=>by
    obtain ⟨v,r,rfl,_,t⟩:=h.cons_of
    simp only [List.length_cons,Reps.length t]
theorem Reps.append:∀ {ds es:List D} {vs us:List V},Reps K H ds vs→Reps K H es us→Reps K H (ds++es) (vs++us)
  | [],_,_,_,h,g=>by rw [h.nil_of];exact g
  | d::ds,_,_,_,h,g=>by
    obtain ⟨v,r,rfl,q,t⟩:=h.cons_of
    exact reps_cons q (Reps.append t g)
theorem Reps.take:∀ {ds:List D} {vs:List V} (n:Nat),Reps K H ds vs→Reps K H (ds.take n) (vs.take n)
  | _,_,0,_=>by rw [List.take_zero,List.take_zero];exact reps_nil
  | [],_,n+1,h=>by rw [h.nil_of];exact reps_nil
  | d::ds,_,n+1,h=>by
    obtain ⟨v,r,rfl,q,t⟩:=h.cons_of
    exact reps_cons q (Reps.take n t)
theorem Reps.drop:∀ {ds:List D} {vs:List V} (n:Nat),Reps K H ds vs→Reps K H (ds.drop n) (vs.drop n)
  | _,_,0,h=>h
  | [],_,n+1,h=>by rw [h.nil_of];exact reps_nil
  | d::ds,_,n+1,h=>by
    obtain ⟨v,r,rfl,q,t⟩:=h.cons_of
    exact Reps.drop n t
theorem Reps.get:∀ {ds:List D} {vs:List V} {i:Nat} {d:D},Reps K H ds vs→ds[i]? = some d→∃ v,vs[i]? = some v∧Rep K H d v
  | [],_,_,_,_,e=>by simp at e
  | d::ds,_,0,_,h,e=>by
    obtain ⟨v,r,rfl,q,t⟩:=h.cons_of
    simp at e;subst e
    exact ⟨v,rfl,q⟩
  | d::ds,_,i+1,_,h,e=>by
    obtain ⟨v,r,rfl,q,t⟩:=h.cons_of
    obtain ⟨u,h1,h2⟩:=Reps.get (i:=i) t (by simpa using e)
    exact ⟨u,by simpa using h1,h2⟩
theorem Reps.get':∀ {ds:List D} {vs:List V} {i:Nat} {v:V},Reps K H ds vs→vs[i]? = some v→∃ d,ds[i]? = some d∧Rep K H d v
  | [],_,_,_,h,e=>by rw [h.nil_of] at e;simp at e
  | d::ds,_,0,_,h,e=>by
    obtain ⟨v,r,rfl,q,t⟩:=h.cons_of
    simp at e;subst e
    exact ⟨d,rfl,q⟩
  | d::ds,_,i+1,_,h,e=>by
    obtain ⟨v,r,rfl,q,t⟩:=h.cons_of
    obtain ⟨u,h1,h2⟩:=Reps.get' (i:=i) t (by simpa using e)
    exact ⟨u,by simpa using h1,h2⟩
theorem Reps.set {d:D} {v:V} (q:Rep K H d v):∀ {ds:List D} {vs:List V} (i:Nat),Reps K H ds vs→Reps K H (ds.set i d) (vs.set i v)
  | [],_,i,h=>by rw [h.nil_of];exact reps_nil
  | e::ds,_,0,h=>by
    obtain ⟨u,r,rfl,_,t⟩:=h.cons_of
    exact reps_cons q t
  | e::ds,_,i+1,h=>by
    obtain ⟨u,r,rfl,q',t⟩:=h.cons_of
    exact reps_cons q' (Reps.set q i t)
theorem reps_ints:∀ (ns:List Int),Reps K H (ns.map D.int) (ns.map V.int)
  | []=>reps_nil
  | n::ns=>reps_cons rep_int (reps_ints ns)
end
abbrev DS:=List (Option D)
def TabK (K:PySem.W.Frag) (H:Hp):Prop:=∀ x∈lamDefs,∀ c P,PySem.W.tabIn K x=some (c,P)→H P=some (.lam (lamQ x))
theorem TabK.mono {K:PySem.W.Frag} {H H':Hp} (s:Same H H') (h:TabK K H):TabK K H':=fun x hx c P e=>s _ _ (h x hx c P e)
def SRep (K:PySem.W.Frag) (H:Hp) (σ:St) (δ:DS):Prop:=σ.length=δ.length∧TabK K H∧∀ (i:Nat) (d:D),δ[i]? = some (some d)→∃ v,σ[i]? = some (some v)∧Rep K H d v
theorem SRep.mono {K:PySem.W.Frag} {H H':Hp} {σ:St} {δ:DS} (s:Same H H') (h:SRep K H σ δ):SRep K H' σ δ :=
  ⟨h.1,h.2.1.mono s,fun i d e=>let ⟨v,a,b⟩:=h.2.2 i d e;⟨v,a,b.mono s⟩⟩
theorem SRep.set {K:PySem.W.Frag} {H:Hp} {σ:St} {δ:DS} {d:D} {v:V} (h:SRep K H σ δ) (q:Rep K H d v) (i:Nat):SRep K H (σ.set i (some v)) (δ.set i (some d)):=by
  refine ⟨by rw [List.length_set,List.length_set];exact h.1,h.2.1,fun j e hj=>?_⟩
  rw [List.getElem?_set] at hj ⊢
  by_cases hij:i=j
  · rw [if_pos hij] at hj ⊢
    subst hij
    by_cases hl:i<δ.length
    · rw [if_pos hl] at hj
      rw [if_pos (by rw [h.1];exact hl)]
      cases hj
      exact ⟨v,rfl,q⟩
    · rw [if_neg hl] at hj;cases hj
  · rw [if_neg hij] at hj ⊢
    exact h.2.2 j e hj
theorem SRep.get {K:PySem.W.Frag} {H:Hp} {σ:St} {δ:DS} (h:SRep K H σ δ) {i:Nat} {d:D} (e:(δ[i]?).join=some d):∃ v,σ[i]? = some (some v)∧Rep K H d v:=by
  refine h.2.2 i d ?_
  cases q:δ[i]? with
  | none=>rw [q] at e;cases e
  | some o=>rw [q] at e;exact congrArg some e
theorem same_new {H:Hp} {p:Addr} (h:H p=none) (o:HO):Same H (upd H p o):=fun b u q=>by rw [upd_ne (ne_of_none q h)];exact q
def tD (K:PySem.W.Frag) (f:DS→Option D):TE:=fun σ H Q=>∃ δ d,SRep K H σ δ∧f δ=some d∧∀ v H',Same H H'→Rep K H' d v→Q v H'
def tF (K:PySem.W.Frag) (f:DS→Option (List D)):TE:=fun σ H Q=>∃ δ ds,SRep K H σ δ∧f δ=some ds∧∀ a xs H',H a=none→Same H H'→H' a=some (.lst xs)→Reps K H' ds xs→Q (.ref a) H'
def tT (K:PySem.W.Frag) (f:DS→Option Bool):TT:=fun σ H Q=>∃ δ b,SRep K H σ δ∧f δ=some b∧∀ H',Same H H'→Q b H'
def tDA (K:PySem.W.Frag) (f:DS→Option (List D)):TA:=fun σ H Q=>∃ δ ds,SRep K H σ δ∧f δ=some ds∧∀ vs H',Same H H'→Reps K H' ds vs→Q vs H'
theorem PE.imp {X:Cx} {e:Expr} {t t':TE} (h:PE X e t) (i:∀ σ H Q,t' σ H Q→t σ H Q):PE X e t':=fun pins s σ H Q I q=>h pins s σ H Q I (i σ H Q q)
theorem PT.imp {X:Cx} {e:Expr} {t t':TT} (h:PT X e t) (i:∀ σ H Q,t' σ H Q→t σ H Q):PT X e t':=fun pins s σ H Q I q=>h pins s σ H Q I (i σ H Q q)
theorem PW.imp {X:Cx} {e:Expr} {t t':TT} (h:PW X e t) (i:∀ σ H Q,t' σ H Q→t σ H Q):PW X e t':=fun w pins s σ H Q I q=>h w pins s σ H Q I (i σ H Q q)
theorem PA.imp {X:Cx} {e:List Expr} {t t':TA} (h:PA X e t) (i:∀ σ H Q,t' σ H Q→t σ H Q):PA X e t':=fun p pins s σ H Q I q=>h p pins s σ H Q I (i σ H Q q)
theorem PS.imp {X:Cx} {e:Stmt} {t t':TS} (h:PS X e t) (i:∀ E σ H,t' E σ H→t E σ H):PS X e t':=fun pins s σ H E I q=>h pins s σ H E I (i E σ H q)
theorem PSs.imp {X:Cx} {e:List Stmt} {t t':TS} (h:PSs X e t) (i:∀ E σ H,t' E σ H→t E σ H):PSs X e t':=fun pins s σ H E I q=>h pins s σ H E I (i E σ H q)
section
variable {X:Cx} {a b e:Expr} {es:List Expr} {pos p:Pos} {fa fb:DS→Option D}
theorem d_of_f {f:DS→Option (List D)} (h:PE X e (tF X.K f)):PE X e (tD X.K fun δ=>(f δ).map D.lst):=h.imp fun σ H Q ⟨δ,d,sr,ef,q⟩=>by
  try dsimp only at e
  try dsimp only at ef
  cases z:f δ with
  | none=>rw [z] at ef;cases ef
  | some ds =>
    rw [z] at ef;cases ef
    exact ⟨δ,ds,sr,z,fun a xs H' _ s ha r=>q _ H' s (rep_lst ha r)⟩
theorem d_var (i:Nat) {x:Str} (hN:X.N[i]? = some x:=by rfl) (hv:Vis X.env.scope x:=by first | exact Or.inl rfl | exact Or.inr (Or.inl rfl) | exact Or.inr (Or.inr rfl)) (hd:(x==("__debug__" : Str))=false:=by decide)
    (hcd:(x==("__classdict__" : Str))=false:=by decide):PE X (.Name x pos) (tD X.K fun δ=>(δ[i]?).join):=(pe_var hN hv hd hcd).imp fun σ H Q ⟨δ,d,sr,e,q⟩=>by
  obtain ⟨v,h1,h2⟩:=sr.get e
  exact ⟨v,h1,q v H (Same.refl H) h2⟩
theorem d_int {i:Int} {j:Nat}:PE X (.Constant (.int i) j pos) (tD X.K fun _=>some (.int i)):=pe_int.imp fun σ H Q ⟨δ,d,sr,e,q⟩=>by cases e;exact q _ H (Same.refl H) rep_int
theorem d_bl {b:Bool} {j:Nat}:PE X (.Constant (.bool b) j pos) (tD X.K fun _=>some (.bl b)):=pe_bl.imp fun σ H Q ⟨δ,d,sr,e,q⟩=>by cases e;exact q _ H (Same.refl H) rep_bl
def bind2 (fa fb:DS→Option D) (g:D→D→Option D):DS→Option D:=fun δ=>(fa δ).bind fun x=>(fb δ).bind fun y=>g x y
theorem bind2_some {fa fb:DS→Option D} {g:D→D→Option D} {δ:DS} {d:D} (h:bind2 fa fb g δ=some d):∃ x y,fa δ=some x∧fb δ=some y∧g x y=some d:=by
  unfold bind2 at h
  try dsimp only at e
  try dsimp only at ef
  cases ex:fa δ with
  | none=>rw [ex] at h;cases h
  | some x =>
    rw [ex] at h
    cases ey:fb δ with
    | none=>rw [ey] at h;cases h
    | some y=>rw [ey] at h;exact ⟨x,y,rfl,rfl,h⟩
def Told2 (K:PySem.W.Frag) (r:R2) (g:D→D→Option D):Prop:=∀ (H:Hp) (x y d:D) (vx vy:V) (Q:VK),Rep K H x vx→Rep K H y vy→g x y=some d→(∀ v H',Same H H'→Rep K H' d v→Q v H')→r vx vy H Q
theorem told2_op {r:R2} {g:D→D→Option D} (hr:Told2 X.K r g):∀ σ H Q,tD X.K (bind2 fa fb g) σ H Q→tOp r (tD X.K fa) (tD X.K fb) σ H Q:=fun σ H Q ⟨δ,d,sr,e,q⟩=>by
  obtain ⟨x,y,ex,ey,eg⟩:=bind2_some e
  exact ⟨δ,x,sr,ex,fun vx H1 s1 rx=>⟨δ,y,sr.mono s1,ey,fun vy H2 s2 ry=>hr H2 x y d vx vy Q (rx.mono s2) ry eg fun v H' s3 rv=>q v H' (s1.trans (s2.trans s3)) rv⟩⟩
theorem d_op {op:Operator} {r:R2} {g:D→D→Option D} (ho:OpR X (binaryOp op) r) (hr:Told2 X.K r g) (ha:PE X a (tD X.K fa)) (hb:PE X b (tD X.K fb)):PE X (.BinOp a op b pos) (tD X.K (bind2 fa fb g)) :=
  (pe_op ho ha hb).imp (told2_op hr)
theorem d_cmp {op:CmpOp} {r:R2} {g:D→D→Option D} (ho:OpR X (compareOp op) r) (hr:Told2 X.K r g) (ha:PE X a (tD X.K fa)) (hb:PE X b (tD X.K fb)) (hm:behindInMarks op b=false):PE X (.Compare a [op] [b] pos) (tD X.K (bind2 fa fb g)) :=
  (pe_cmpR ho ha hb hm).imp (told2_op hr)
def asB:Option D→Option Bool
  | some (.bl b)=>some b
  | _=>none
theorem asB_some {o:Option D} {b:Bool} (h:asB o=some b):o=some (.bl b):=by
  unfold asB at h
  split at h
  · cases h;rfl
  · cases h
theorem t_cmp {op:CmpOp} {r:R2} {g:D→D→Option D} (ho:OpR X (compareOp op) r) (hr:Told2 X.K r g) (ha:PE X a (tD X.K fa)) (hb:PE X b (tD X.K fb)) (hm:behindInMarks op b=false):PT X (.Compare a [op] [b] pos) (tT X.K fun δ=>asB (bind2 fa fb g δ)) :=
  (pt_cmpR ho ha hb hm).imp fun σ H Q ⟨δ,c,sr,e,q⟩=>told2_op hr σ H _ ⟨δ,.bl c,sr,asB_some e,fun v H' s rv=>⟨c,rv.bl_of,q H' s⟩⟩
theorem d_un {op:UnaryOp} {r:V→Hp→VK→Prop} {g:D→Option D} (ho:UnR X (unaryOp op) r) (hr:∀ (H:Hp) (x d:D) (vx:V) (Q:VK),Rep X.K H x vx→g x=some d→(∀ v H',Same H H'→Rep X.K H' d v→Q v H')→r vx H Q)
    (ha:PE X a (tD X.K fa)):PE X (.UnaryOp op a pos) (tD X.K fun δ=>(fa δ).bind g):=(pe_un ho ha).imp fun σ H Q ⟨δ,d,sr,e,q⟩=>by
  try dsimp only at e
  try dsimp only at ef
  cases ex:fa δ with
  | none=>rw [ex] at e;cases e
  | some x =>
    rw [ex] at e
    exact ⟨δ,x,sr,ex,fun vx H1 s1 rx=>hr H1 x d vx Q rx e fun v H' s2 rv=>q v H' (s1.trans s2) rv⟩
def okM (i:Int):Bool:=decide (i.natAbs.log2<60000000)
def okMul (i j:Int):Bool:=decide ((-(2 ^ 64)<i∧i<2 ^ 64)∨(-(2 ^ 64)<j∧j<2 ^ 64)) || (okM i&&okM j)
theorem okM_bits {i:Int} (h:okM i=true):Builtin.Int.intBits i≤60000001:=by
  have h':i.natAbs.log2<60000000:=of_decide_eq_true h
  unfold Builtin.Int.intBits
  split
  · exact Nat.zero_le _
  · omega
theorem okMul_ok {i j:Int} (h:okMul i j=true):IntMulOk i j:=by
  unfold okMul at h
  rcases Bool.or_eq_true_iff.mp h with h | h
  · exact CMul.ok (show (-(2 ^ 64)<i∧i<2 ^ 64)∨(-(2 ^ 64)<j∧j<2 ^ 64) from of_decide_eq_true h)
  · have h:=Bool.and_eq_true_iff.mp h
    exact IntMulOk.of_le (okM_bits h.1) (okM_bits h.2) (by omega)
theorem op_mulR:OpR X (binaryOp .Mult) (rI (fun i j=>okMul i j=true) fun i j=>.int (i*j)):=opI fun _ _ _ _ _ _ _ hc q=>mul_int q (okMul_ok hc)
def fit (n:Nat):Bool:=decide (n≤1000)
theorem fit_le {n:Nat} (h:fit n=true):n≤sizeLine:=Nat.le_of_lt (small1000 (of_decide_eq_true h))
def addD:D→D→Option D
  | .int i,.int j=>some (.int (i+j))
  | .tup xs,.tup ys=>if fit (xs.length+ys.length)=true then some (.tup (xs++ys)) else none
  | .lst xs,.lst ys=>if fit (xs.length+ys.length)=true then some (.lst (xs++ys)) else none
  | _,_=>none
def subD:D→D→Option D
  | .int i,.int j=>some (.int (i-j))
  | _,_=>none
def mulD:D→D→Option D
  | .int i,.int j=>if okMul i j=true then some (.int (i*j)) else none
  | .lst xs,.int k=>if fit k.natAbs=true∧fit (xs.length*k.toNat)=true then some (.lst (List.replicate k.toNat xs).flatten) else none
  | .tup xs,.int k=>if xs.isEmpty=false∧fit k.natAbs=true∧fit (xs.length*k.toNat)=true then some (.tup (List.replicate k.toNat xs).flatten) else none
  | _,_=>none
def modD:D→D→Option D
  | .int i,.int j=>if j=0 then none else some (.int (i.fmod j))
  | _,_=>none
def ltD:D→D→Option D
  | .int i,.int j=>some (.bl (decide (i<j)))
  | _,_=>none
def gtD:D→D→Option D
  | .int i,.int j=>some (.bl (decide (j<i)))
  | _,_=>none
def negD:D→Option D
  | .int i=>some (.int (-i))
  | _=>none
theorem told_int2 {g:D→D→Option D} {k:Int→Int→V} {kd:Int→Int→D} (hg:∀ x y d,g x y=some d→∃ i j,x = .int i∧y = .int j∧d=kd i j) (hk:∀ H i j,Rep X.K H (kd i j) (k i j)):Told2 X.K (rI0 k) g:=fun H x y d vx vy Q rx ry e q=>by
  obtain ⟨i,j,rfl,rfl,rfl⟩:=hg x y d e
  exact ⟨i,j,rx.int_of,ry.int_of,q _ H (Same.refl H) (hk H i j)⟩
theorem int2_of {g:D→D→Option D} {kd:Int→Int→D} (h1:∀ i j,g (.int i) (.int j)=some (kd i j)) (h2:∀ x y,(¬ ∃ i j,x = .int i∧y = .int j)→g x y=none) (x y d:D) (e:g x y=some d):∃ i j,x = .int i∧y = .int j∧d=kd i j:=by
  by_cases h:∃ i j,x = .int i∧y = .int j
  · obtain ⟨i,j,rfl,rfl⟩:=h
    rw [h1] at e;cases e
    exact ⟨i,j,rfl,rfl,rfl⟩
  · rw [h2 x y h] at e;cases e
theorem d_sub (ha:PE X a (tD X.K fa)) (hb:PE X b (tD X.K fb)):PE X (.BinOp a .Sub b pos) (tD X.K (bind2 fa fb subD)) :=
  d_op op_sub (told_int2 (kd:=fun i j=>.int (i-j)) (int2_of (fun _ _=>rfl) fun x y h=>by unfold subD;split<;>first | rfl | exact absurd ⟨_,_,rfl,rfl⟩ h) fun _ _ _=>rep_int) ha hb
theorem d_lt (ha:PE X a (tD X.K fa)) (hb:PE X b (tD X.K fb)):PE X (.Compare a [.Lt] [b] pos) (tD X.K (bind2 fa fb ltD)) :=
  d_cmp op_lt (told_int2 (kd:=fun i j=>.bl (decide (i<j))) (int2_of (fun _ _=>rfl) fun x y h=>by unfold ltD;split<;>first | rfl | exact absurd ⟨_,_,rfl,rfl⟩ h) fun _ _ _=>rep_bl) ha hb (nomark _)
theorem t_lt (ha:PE X a (tD X.K fa)) (hb:PE X b (tD X.K fb)):PT X (.Compare a [.Lt] [b] pos) (tT X.K fun δ=>asB (bind2 fa fb ltD δ)) :=
  t_cmp op_lt (told_int2 (kd:=fun i j=>.bl (decide (i<j))) (int2_of (fun _ _=>rfl) fun x y h=>by unfold ltD;split<;>first | rfl | exact absurd ⟨_,_,rfl,rfl⟩ h) fun _ _ _=>rep_bl) ha hb (nomark _)
theorem t_gt (ha:PE X a (tD X.K fa)) (hb:PE X b (tD X.K fb)):PT X (.Compare a [.Gt] [b] pos) (tT X.K fun δ=>asB (bind2 fa fb gtD δ)) :=
  t_cmp op_gt (told_int2 (kd:=fun i j=>.bl (decide (j<i))) (int2_of (fun _ _=>rfl) fun x y h=>by unfold gtD;split<;>first | rfl | exact absurd ⟨_,_,rfl,rfl⟩ h) fun _ _ _=>rep_bl) ha hb (nomark _)
theorem d_neg (ha:PE X a (tD X.K fa)):PE X (.UnaryOp .USub a pos) (tD X.K fun δ=>(fa δ).bind negD) :=
  d_un un_neg (fun H x d vx Q rx e q=>by
    unfold negD at e
    split at e
    · cases e;exact ⟨_,rx.int_of,q _ H (Same.refl H) rep_int⟩
    · cases e) ha
theorem d_mod (ha:PE X a (tD X.K fa)) (hb:PE X b (tD X.K fb)):PE X (.BinOp a .Mod b pos) (tD X.K (bind2 fa fb modD)) :=
  d_op op_modN (fun H x y d vx vy Q rx ry e q=>by
    unfold modD at e
    split at e
    · split at e
      · cases e
      · cases e;exact ⟨_,_,rx.int_of,ry.int_of,‹_›,q _ H (Same.refl H) rep_int⟩
    · cases e) ha hb
theorem d_mul (ha:PE X a (tD X.K fa)) (hb:PE X b (tD X.K fb)):PE X (.BinOp a .Mult b pos) (tD X.K (bind2 fa fb mulD)) :=
  d_op (op_mulR.or (op_rep.or op_repT)) (fun H x y d vx vy Q rx ry e q=>by
    unfold mulD at e
    split at e
    · split at e
      · cases e;exact .inl ⟨_,_,rx.int_of,ry.int_of,‹_›,q _ H (Same.refl H) rep_int⟩
      · cases e
    · rename_i xs k
      split at e
      · rename_i hk
        cases e
        obtain ⟨l,vs,e1,e2,e3⟩:=rx.lst_of
        have hl:=e3.length
        have hk1:k.natAbs≤1000:=of_decide_eq_true hk.1
        have rr:∀ n,Reps X.K H (List.replicate n xs).flatten (List.replicate n vs).flatten:=fun n=>by
          induction n with
          | zero=>exact reps_nil
          | succ n ih=>rw [List.replicate_succ,List.replicate_succ,List.flatten_cons,List.flatten_cons];exact e3.append ih
        exact .inr (.inl ⟨l,k,vs,e1,ry.int_of,e2,by omega,by omega,by rw [hl];exact fit_le hk.2,fun p hp=>q _ _ (same_new hp _) (rep_lst upd_same ((rr _).mono (same_new hp _)))⟩)
      · cases e
    · rename_i xs k
      split at e
      · rename_i hk
        cases e
        obtain ⟨l,vs,e1,e2,e3⟩:=rx.tup_of
        have hl:=e3.length
        have hk1:k.natAbs≤1000:=of_decide_eq_true hk.2.1
        have rr:∀ n,Reps X.K H (List.replicate n xs).flatten (List.replicate n vs).flatten:=fun n=>by
          induction n with
          | zero=>exact reps_nil
          | succ n ih=>rw [List.replicate_succ,List.replicate_succ,List.flatten_cons,List.flatten_cons];exact e3.append ih
        refine .inr (.inr ⟨l,k,vs,e1,ry.int_of,SqT.of e2,fun z=>?_,by omega,by omega,by rw [hl];exact fit_le hk.2.2,fun ek=>?_,fun _ p hp=>q _ _ (same_new hp _) (rep_tup upd_same ((rr _).mono (same_new hp _)))⟩)
        · subst z
          have:=hk.1
          cases xs with
          | nil=>simp at this
          | cons _ _=>simp at hl
        · subst ek
          exact q _ H (Same.refl H) (rep_tup e2 (by simpa using rr 1))
      · cases e
    · cases e) ha hb
end
end L2
set_option Elab.async false
set_option linter.all false
set_option maxRecDepth 100000
namespace L2
open PySem PySem.Spec PyProof.Rows
section
variable {prog:Program} {w:World} {A:Around} {E:Value→Shared→Prop} {s:Shared}
theorem cat_tup0 {t b:Addr} {vs ws:List Value} {Q:Value→Shared→Prop} (ht:IsTup s.heap t vs.toArray) (hb:IsTup s.heap b ws.toArray) (hv:vs=[])
    (h1:Q (.ref b) s):wpAny (model prog w) A (binaryOp .Add (.ref t) (.ref b)) Q E s:=by
  obtain ⟨⟨cls,dd,data,sl⟩,ho,hc,n,hd⟩:=id ht
  obtain ⟨⟨cls2,dd2,data2,sl2⟩,ho2,hc2,n2,hd2⟩:=id hb
  simp only at hc hd hc2 hd2
  subst hc hd hc2 hd2
  exact concat_meets ⟨_,ho,rfl⟩ ⟨_,ho2,rfl⟩ noFill_tuple_add seq_tuple_add PySem.F.slot_tuple_add PySem.F.entry_tuple_add (PySem.F.args_tuple_add_2 _ _)
      (tuple_addW0 t b vs.toArray ws.toArray n n2 dd dd2 sl sl2 (by simp [hv])) ⟨ho,ho2,h1⟩
theorem getItem_tuple_whole {t sl:Addr} {items:Array Value} {vl vu:Value} {lo hi:Option Int} {Q:Value→Shared→Prop} (ht:IsTup s.heap t items) (hs:s.heap.IsSliceOf sl vl vu .none) (pl:IsPart vl lo) (pu:IsPart vu hi)
    (hw:HT.sIx items.size 0 lo=0∧HT.sIx items.size items.size hi=items.size) (h:Q (.ref t) s):wpAny (model prog w) A (getItem (.ref t) (.ref sl)) Q E s:=by
  obtain ⟨os,hos,hcs,hds⟩:=id hs
  have hTs:s.TypeIs (.ref sl) "slice" := ⟨os,hos,hcs⟩
  unfold getItem
  try with_reducible refine wpAny_holding ?_
  first | refine wpAny_bind (wpAny_pure ?_) | skip
  refine wpAny_bind (wpAny_sequenceKey ht.typeIs (by decide) ?_)
  refine wpAny_bind (wpAny_callSpecial?_slot (name:=Str.ofString "__getitem__") ht.typeIs PyProof.Rows.slot_tuple_getitem
    (wpAny_call_entry PyProof.Rows.slot_tuple_getitem ht.typeIs entry_tuple_getitem ?_ (args_tuple_getitem _ _)))
  show wpAny _ _ (Builtin.Tuple.tupleItemsOf (.ref t) >>= _) _ _ s
  refine wpAny_bind (tupleItemsOf_ ht ?_)
  refine wpAny_bind (wpAny_typeOf hTs ?_)
  rw [if_pos (by decide)]
  refine wpAny_bind (HT.sliceApplied_gen hs pl pu ?_)
  have hyes:(((HT.sIx items.size 0 lo:Nat):Int)==0&&(1:Int)==1&&(HT.sIx items.size items.size hi-HT.sIx items.size 0 lo)==items.size)=true:=by
    rw [hw.1,hw.2];simp
  show wpAny _ _ (if (((HT.sIx items.size 0 lo:Nat):Int)==0&&(1:Int)==1&&(HT.sIx items.size items.size hi-HT.sIx items.size 0 lo)==items.size)=true then _ else _) _ _ s
  rw [if_pos hyes]
  refine wpAny_bind ?_
  unfold Builtin.Tuple.tupleIsExact
  refine wpAny_bind (wpAny_typeOf ht.typeIs (wpAny_pure ?_))
  rw [if_pos (by decide)]
  exact wpAny_bind (wpAny_rule (wpAny_bind (wpAny_pure (wpAny_pure ⟨_,rfl,wpAny_pure h⟩))))
end
section
variable {X:Cx}
def rCatT0:R2:=fun x y H Q=>∃ a b xs ys,x = .ref a∧y = .ref b∧H a=some (.tup xs)∧H b=some (.tup ys)∧xs=[]∧Q (.ref b) H
theorem op_catT0:OpR X (binaryOp .Add) rCatT0:=by
  intro pins s σ H x y v u Q I rx ry h
  obtain ⟨a,b,xs,ys,rfl,rfl,ha,hb,hx,q⟩:=h
  cases rx
  cases ry
  obtain ⟨its,r1,p1,_⟩:=I.tuple (SqT.of ha)
  obtain ⟨its2,r2,p2,_⟩:=I.tuple (SqT.of hb)
  exact cat_tup0 p1 p2 (r1.nil_iff.mpr hx) ⟨.ref b,H,I,rfl,q⟩
def rSlT0:V→Option Int→Option Int→Hp→VK→Prop:=fun x lo hi H Q=>∃ a xs,x = .ref a∧H a=some (.tup xs) ∧
  (HT.sIx xs.length 0 lo=0∧HT.sIx xs.length xs.length hi=xs.length)∧Q (.ref a) H
theorem sl_tup0:SlR X rSlT0:=by
  intro pins s σ H x v vl vu lo hi sl Q I rx hs pl pu h
  obtain ⟨a,xs,rfl,hx,hw,q⟩:=h
  cases rx
  obtain ⟨its,r,ht,hz⟩:=I.tuple (SqT.of hx)
  have hlen:its.toArray.size=xs.length:=by rw [List.size_toArray];exact r.length.symm
  exact ⟨"tuple", _,PyProof.Rows.slot_tuple_getitem.lookup,ht.typeIs,getItem_tuple_whole ht hs pl pu (by rw [hlen];exact hw) ⟨.ref a,H,I,rfl,q⟩⟩
variable {a b e:Expr} {es:List Expr} {pos p:Pos} {fa fb:DS→Option D}
theorem d_add (ha:PE X a (tD X.K fa)) (hb:PE X b (tD X.K fb)):PE X (.BinOp a .Add b pos) (tD X.K (bind2 fa fb addD)) :=
  d_op (op_add.or (op_catT0.or (op_catT.or op_cat))) (fun H x y d vx vy Q rx ry e q=>by
    unfold addD at e
    split at e
    · cases e;exact .inl ⟨_,_,rx.int_of,ry.int_of,q _ H (Same.refl H) rep_int⟩
    · rename_i xs ys
      split at e
      · rename_i hf
        cases e
        obtain ⟨a,us,e1,e2,e3⟩:=rx.tup_of
        obtain ⟨b,ws,g1,g2,g3⟩:=ry.tup_of
        by_cases hx:us=[]
        · subst hx
          have:xs=[]:=by have:=e3.length;cases xs with | nil=>rfl | cons _ _=>simp at this
          subst this
          exact .inr (.inl ⟨a,b,[],ws,e1,g1,e2,g2,rfl,q _ H (Same.refl H) (rep_tup g2 g3)⟩)
        · refine .inr (.inr (.inl ⟨a,b,us,ws,e1,g1,SqT.of e2,SqT.of g2,hx,by rw [e3.length,g3.length];exact fit_le hf,fun hw=>?_,fun hw p hp=>?_⟩))
          · subst hw
            have:ys=[]:=by have:=g3.length;cases ys with | nil=>rfl | cons _ _=>simp at this
            subst this
            exact q _ H (Same.refl H) (rep_tup e2 (by rw [List.append_nil];exact e3))
          · exact q _ _ (same_new hp _) (rep_tup upd_same ((e3.append g3).mono (same_new hp _)))
      · cases e
    · rename_i xs ys
      split at e
      · rename_i hf
        cases e
        obtain ⟨a,us,e1,e2,e3⟩:=rx.lst_of
        obtain ⟨b,ws,g1,g2,g3⟩:=ry.lst_of
        exact .inr (.inr (.inr ⟨a,b,us,ws,e1,g1,e2,g2,by rw [e3.length,g3.length];exact fit_le hf,fun p hp=>q _ _ (same_new hp _) (rep_lst upd_same ((e3.append g3).mono (same_new hp _)))⟩))
      · cases e
    · cases e) ha hb
def CDivR (i j:Int):Prop:=j≠0
theorem op_fdivR {k:Nat} {env:Env} {l:List Env} (hr:Room k X.A) (ht:X.prog.given.tree=none) (hst:X.stack=env::l) (hgen:env.scope.isGenerator=false) (hco:env.scope.isCoroutine=false) (hb:env.builtins=builtinsNs) (hg:env.globals=mainGlobals) :
    OpR X (binaryOp .FloorDiv) (rI CDivR fun i j=>.int (i.fdiv j)):=by
  intro pins s σ H x y v u Q I rx ry h
  obtain ⟨i,j,rfl,rfl,hc,q⟩:=h
  obtain ⟨t,rfl⟩:=rx
  obtain ⟨t',rfl⟩:=ry
  have seer:s.heap.NoSeer:=I.ok.mod.seer.keeps I.bk
  have hs:SeerAt (model X.prog X.w) X.A s.heap:=SeerAt.of seer ht (I.ok.frames.trans (congrArg some hst)) hgen hco hb hg
  exact floordiv_int hc ⟨.int (i.fdiv j),H,I.tok _,⟨_,rfl⟩,q⟩ (.inr (PylongRoom.of I.nolimit (by have:=hr.dp;show _+100<_;omega) hs))
def fdivD:D→D→Option D
  | .int i,.int j=>if j≠0 then some (.int (i.fdiv j)) else none
  | _,_=>none
theorem d_fdiv {k:Nat} {env:Env} {l:List Env} (hr:Room k X.A) (ht:X.prog.given.tree=none) (ha:PE X a (tD X.K fa)) (hb:PE X b (tD X.K fb)) (hst:X.stack=env::l:=by rfl) (hgen:env.scope.isGenerator=false:=by rfl) (hco:env.scope.isCoroutine=false:=by rfl) (hbn:env.builtins=builtinsNs:=by rfl) (hg:env.globals=mainGlobals:=by rfl):PE X (.BinOp a .FloorDiv b pos) (tD X.K (bind2 fa fb fdivD)) :=
  d_op (op_fdivR hr ht hst hgen hco hbn hg) (fun H x y d vx vy Q rx ry e q=>by
    unfold fdivD at e
    split at e
    · split at e
      · cases e;exact ⟨_,_,rx.int_of,ry.int_of,‹_›,q _ H (Same.refl H) rep_int⟩
      · cases e
    · cases e) ha hb
def ceqL (f:D→D→Option Bool):List D→List D→Option Bool
  | [],[]=>some true
  | [],_::_=>some false
  | _::_,[]=>some false
  | x::xs,y::ys=>(f x y).bind fun a=>(ceqL f xs ys).map fun b=>a&&b
def ceqN:Nat→D→D→Option Bool
  | 0,_,_=>none
  | _+1,.int i,.int j=>some (i==j)
  | _+1,.bl i,.bl j=>some (i==j)
  | _+1,.str i,.str j=>some (i==j)
  | _+1,.non,.non=>some true
  | n+1,.tup xs,.tup ys=>ceqL (ceqN n) xs ys
  | n+1,.lst xs,.lst ys=>ceqL (ceqN n) xs ys
  | _+1,_,_=>none
def ceqAt (f:D→D→Option Bool) (xs ys:List D) (j:Nat):Bool:=match xs[j]?,ys[j]? with | some x,some y=>(f x y).getD false | _,_=>false
theorem ceqL_len {f:D→D→Option Bool}:∀ {xs ys:List D} {k:Bool},ceqL f xs ys=some k→k=(((List.range (min xs.length ys.length)).all (ceqAt f xs ys))&&(xs.length==ys.length))
  | [],[],k,h=>by simp [ceqL] at h;subst h;rfl
  | [],_::_,k,h=>by simp [ceqL] at h;subst h;simp
  | _::_,[],k,h=>by simp [ceqL] at h;subst h;simp
  | x::xs,y::ys,k,h=>by
    unfold ceqL at h
    cases ha:f x y with
    | none=>rw [ha] at h;cases h
    | some a =>
      rw [ha] at h
      cases hb:ceqL f xs ys with
      | none=>rw [hb] at h;cases h
      | some b =>
        rw [hb] at h
        have h':(a&&b)=k:=by simpa using h
        have ih:=ceqL_len hb
        subst h'
        rw [ih]
        have hm:min (x::xs).length (y::ys).length=min xs.length ys.length+1:=by simp only [List.length_cons];omega
        rw [hm,List.range_succ_eq_map]
        simp only [List.all_cons,List.all_map,List.length_cons]
        have e0:ceqAt f (x::xs) (y::ys) 0=a:=by simp [ceqAt,ha]
        have e1:(ceqAt f (x::xs) (y::ys) ∘ Nat.succ)=ceqAt f xs ys:=by funext j;simp [ceqAt]
        rw [e0,e1,Bool.and_assoc]
        simp
theorem ceqL_get {f:D→D→Option Bool}:∀ {xs ys:List D} {k:Bool},ceqL f xs ys=some k→∀ (j:Nat) (x y:D),xs[j]? = some x→ys[j]? = some y→∃ b,f x y=some b
  | [],_,k,h,j,x,y,h1,h2=>by simp at h1
  | _::_,[],k,h,j,x,y,h1,h2=>by simp at h2
  | x' :: xs,y' :: ys,k,h,j,x,y,h1,h2=>by
    unfold ceqL at h
    cases ha:f x' y' with
    | none=>rw [ha] at h;cases h
    | some a =>
      rw [ha] at h
      cases hb:ceqL f xs ys with
      | none=>rw [hb] at h;cases h
      | some b =>
        cases j with
        | zero=>simp at h1 h2;subst h1 h2;exact ⟨a,ha⟩
        | succ j=>exact ceqL_get hb j x y (by simpa using h1) (by simpa using h2)
theorem ceqL_self {f:D→D→Option Bool}:∀ {xs:List D} {ys:List D} {k:Bool},ceqL f xs ys=some k→xs.length=ys.length→(∀ (j:Nat) (x y:D) (b:Bool),xs[j]? = some x→ys[j]? = some y→f x y=some b→b=true)→k=true
  | [],[],k,h,_,_=>by cases h;rfl
  | [],_::_,k,h,hl,_=>by simp at hl
  | _::_,[],k,h,hl,_=>by simp at hl
  | x::xs,y::ys,k,h,hl,hj=>by
    unfold ceqL at h
    cases ha:f x y with
    | none=>rw [ha] at h;cases h
    | some a =>
      rw [ha] at h
      cases hb:ceqL f xs ys with
      | none=>rw [hb] at h;cases h
      | some b =>
        rw [hb] at h
        have h':(a&&b)=k:=by simpa using h
        have e1:=hj 0 x y a rfl rfl ha
        have e2:=ceqL_self hb (by simpa using hl) fun j x' y' b' h1 h2 h3=>hj (j+1) x' y' b' (by simpa using h1) (by simpa using h2) h3
        rw [← h',e1,e2];rfl
theorem ceqN_self {K:PySem.W.Frag} {H:Hp}:∀ (n:Nat) {d e:D} {v:V} {k:Bool},Rep K H d v→Rep K H e v→ceqN n d e=some k→k=true
  | 0,_,_,_,_,_,_,h=>by simp [ceqN] at h
  | n+1,d,e,v,k,r1,r2,h=>by
    unfold ceqN at h
    split at h
    · cases h
    · have:=r1.int_of;subst this;have:=r2.int_of;injection this with this;subst this;simpa using h.symm
    · have:=r1.bl_of;subst this;have:=r2.bl_of;injection this with this;subst this;simpa using h.symm
    · have:=r1.str_of;subst this;have:=r2.str_of;injection this with this;subst this;simpa using h.symm
    · simpa using h.symm
    · rename_i m xs ys hm
      cases hm
      obtain ⟨a,us,e1,e2,e3⟩:=r1.tup_of
      obtain ⟨b,ws,g1,g2,g3⟩:=r2.tup_of
      subst e1;injection g1 with g1;subst g1
      rw [e2] at g2;cases g2
      exact ceqL_self h (by rw [← e3.length,← g3.length]) fun j x y b' h1 h2 h3=>by
        obtain ⟨v1,z1,z2⟩:=e3.get h1
        obtain ⟨v2,y1,y2⟩:=g3.get h2
        rw [z1] at y1;cases y1
        exact ceqN_self n z2 y2 h3
    · rename_i m xs ys hm
      cases hm
      obtain ⟨a,us,e1,e2,e3⟩:=r1.lst_of
      obtain ⟨b,ws,g1,g2,g3⟩:=r2.lst_of
      subst e1;injection g1 with g1;subst g1
      rw [e2] at g2;cases g2
      exact ceqL_self h (by rw [← e3.length,← g3.length]) fun j x y b' h1 h2 h3=>by
        obtain ⟨v1,z1,z2⟩:=e3.get h1
        obtain ⟨v2,y1,y2⟩:=g3.get h2
        rw [z1] at y1;cases y1
        exact ceqN_self n z2 y2 h3
    · cases h
theorem vals_at {xs:List V} {its:List Value} (r:Vals xs its) {j:Nat} (h:j<its.toArray.size):∃ x,xs[j]? = some x∧RelV x its.toArray[j]:=by
  have hl:=r.length
  have hj:j<xs.length:=by simpa [hl] using h
  obtain ⟨u,h1,h2⟩:=r.get (i:=j) (x:=xs[j]) (List.getElem?_eq_getElem hj)
  refine ⟨xs[j],List.getElem?_eq_getElem hj,?_⟩
  have hj':j<its.length:=by simpa using h
  rw [List.getElem?_eq_getElem hj'] at h1
  cases h1
  simpa using h2
theorem eqAt_D {pins:List (Addr × Obj)} {σ:St} {H:Hp} {s:Shared} (I:Inv X pins σ H s):∀ (n:Nat) (A:Around) {d e:D} {x y:V} {v u:Value} {k:Bool},A.units+n<cLine→Rep X.K H d x→Rep X.K H e y→RelV x v→RelV y u→ceqN n d e=some k→SeqAt.EqAt A s v u k
  | 0,_,_,_,_,_,_,_,_,_,_,_,_,_,h=>by simp [ceqN] at h
  | n+1,A,d,e,x,y,v,u,k,hu,r1,r2,rx,ry,h=>by
    have whole:=h
    unfold ceqN at h
    split at h
    · cases h
    · have z1:=r1.int_of;subst z1;have z2:=r2.int_of;subst z2
      obtain ⟨t,rfl⟩:=rx;obtain ⟨t',rfl⟩:=ry;cases h
      exact SeqAt.EqAt.int_int _ _ _ _
    · have z1:=r1.bl_of;subst z1;have z2:=r2.bl_of;subst z2
      cases rx;cases ry;cases h
      exact SeqAt.EqAt.bool_bool _ _
    · have z1:=r1.str_of;subst z1;have z2:=r2.str_of;subst z2
      obtain ⟨t,rfl⟩:=rx;obtain ⟨t',rfl⟩:=ry;cases h
      exact SeqAt.EqAt.str_str _ _ _ _
    · have z1:=r1.non_of;subst z1;have z2:=r2.non_of;subst z2
      cases rx;cases ry;cases h
      exact SeqAt.EqAt.same _
    · rename_i m xs ys hm
      cases hm
      obtain ⟨a,us,e1,e2,e3⟩:=r1.tup_of
      obtain ⟨b,ws,g1,g2,g3⟩:=r2.tup_of
      subst e1 g1
      cases rx;cases ry
      by_cases hab:a=b
      · subst hab
        rw [ceqN_self _ r1 r2 whole]
        exact SeqAt.EqAt.same _
      · refine SeqAt.EqAt.of_refs hab ?_
        obtain ⟨its,q1,p1,_⟩:=I.tuple (SqT.of e2)
        obtain ⟨its2,q2,p2,_⟩:=I.tuple (SqT.of g2)
        have l1:its.toArray.size=xs.length:=by rw [List.size_toArray,← q1.length,e3.length]
        have l2:its2.toArray.size=ys.length:=by rw [List.size_toArray,← q2.length,g3.length]
        have key:=ceqL_len h
        have R:=SeqAt.RcAt.tuples (A:=A) (s:=s) (e:=ceqAt (ceqN n) xs ys) p1 p2 (by omega) (fun j h1 h2=>?_)
        · rw [l1,l2] at R
          rw [key];exact R
        · obtain ⟨x1,y1,y2⟩:=vals_at q1 h1
          obtain ⟨x2,y3,y4⟩:=vals_at q2 h2
          obtain ⟨d1,w1,w2⟩:=e3.get' y1
          obtain ⟨d2,w3,w4⟩:=g3.get' y3
          obtain ⟨b',hb'⟩:=ceqL_get h j d1 d2 w1 w3
          have:=eqAt_D I n A.in1 (by show A.units+1+n<cLine;omega) w2 w4 y2 y4 hb'
          simp only [ceqAt,w1,w3,hb',Option.getD_some]
          exact this
    · rename_i m xs ys hm
      cases hm
      obtain ⟨a,us,e1,e2,e3⟩:=r1.lst_of
      obtain ⟨b,ws,g1,g2,g3⟩:=r2.lst_of
      subst e1 g1
      cases rx;cases ry
      by_cases hab:a=b
      · subst hab
        rw [ceqN_self _ r1 r2 whole]
        exact SeqAt.EqAt.same _
      · refine SeqAt.EqAt.of_refs hab ?_
        obtain ⟨its,q1,p1,_⟩:=I.list (SqL.of e2)
        obtain ⟨its2,q2,p2,_⟩:=I.list (SqL.of g2)
        have l1:its.toArray.size=xs.length:=by rw [List.size_toArray,← q1.length,e3.length]
        have l2:its2.toArray.size=ys.length:=by rw [List.size_toArray,← q2.length,g3.length]
        have key:=ceqL_len h
        by_cases hsz:its.toArray.size=its2.toArray.size
        · have R:=SeqAt.RcAt.lists (A:=A) (s:=s) (e:=ceqAt (ceqN n) xs ys) p1.isList p2.isList hsz (by omega) (fun j h1 h2=>?_)
          · have hxy:xs.length=ys.length:=by omega
            rw [l1] at R
            rw [key,hxy]
            rw [hxy] at R
            simpa using R
          · obtain ⟨x1,y1,y2⟩:=vals_at q1 h1
            obtain ⟨x2,y3,y4⟩:=vals_at q2 h2
            obtain ⟨d1,w1,w2⟩:=e3.get' y1
            obtain ⟨d2,w3,w4⟩:=g3.get' y3
            obtain ⟨b',hb'⟩:=ceqL_get h j d1 d2 w1 w3
            have:=eqAt_D I n A.in1 (by show A.units+1+n<cLine;omega) w2 w4 y2 y4 hb'
            simp only [ceqAt,w1,w3,hb',Option.getD_some]
            exact this
        · have hne:(xs.length==ys.length)=false:=by rw [beq_eq_false_iff_ne];omega
          rw [key,hne,Bool.and_false]
          exact SeqAt.RcAt.lists_lengths p1.isList p2.isList (by simpa using hsz) (by omega)
    · cases h
end
end L2
set_option Elab.async false
set_option linter.all false
set_option maxRecDepth 100000
namespace L2
open PySem PySem.Spec PyProof.Rows
section
variable {X:Cx} {a b e:Expr} {es:List Expr} {pos p:Pos} {fa fb:DS→Option D}
theorem rcAt_D {pins:List (Addr × Obj)} {σ:St} {H:Hp} {s:Shared} (I:Inv X pins σ H s) (n:Nat) (A:Around) {d e:D} {x y:V} {v u:Value} {k:Bool} (hu:A.units+n<cLine) (r1:Rep X.K H d x) (r2:Rep X.K H e y) (rx:RelV x v) (ry:RelV y u)
    (h:ceqN n d e=some k):SeqAt.RcAt A s v u k∧SeqAt.RcNeAt A s v u (!k):=by
  cases n with
  | zero=>simp [ceqN] at h
  | succ n =>
    unfold ceqN at h
    split at h
    · cases h
    · have z1:=r1.int_of;subst z1;have z2:=r2.int_of;subst z2
      obtain ⟨t,rfl⟩:=rx;obtain ⟨t',rfl⟩:=ry;cases h
      exact ⟨SeqAt.RcAt.int_int _ _ _ _,SeqAt.RcNeAt.int_int _ _ _ _⟩
    · have z1:=r1.bl_of;subst z1;have z2:=r2.bl_of;subst z2
      cases rx;cases ry;cases h
      exact ⟨SeqAt.RcAt.bool_bool _ _,SeqAt.RcNeAt.bool_bool _ _⟩
    · have z1:=r1.str_of;subst z1;have z2:=r2.str_of;subst z2
      obtain ⟨t,rfl⟩:=rx;obtain ⟨t',rfl⟩:=ry;cases h
      exact ⟨SeqAt.RcAt.str_str _ _ _ _,SeqAt.RcNeAt.str_str _ _ _ _⟩
    · have z1:=r1.non_of;subst z1;have z2:=r2.non_of;subst z2
      cases rx;cases ry;cases h
      exact ⟨SeqAt.RcAt.none_none,SeqAt.RcNeAt.none_none⟩
    · rename_i m xs ys hm
      cases hm
      obtain ⟨a,us,e1,e2,e3⟩:=r1.tup_of
      obtain ⟨b,ws,g1,g2,g3⟩:=r2.tup_of
      subst e1 g1
      cases rx;cases ry
      obtain ⟨its,q1,p1,_⟩:=I.tuple (SqT.of e2)
      obtain ⟨its2,q2,p2,_⟩:=I.tuple (SqT.of g2)
      have l1:its.toArray.size=xs.length:=by rw [List.size_toArray,← q1.length,e3.length]
      have l2:its2.toArray.size=ys.length:=by rw [List.size_toArray,← q2.length,g3.length]
      have key:=ceqL_len h
      have he:∀ j (h1:j<its.toArray.size) (h2:j<its2.toArray.size),SeqAt.EqAt A.in1 s its.toArray[j] its2.toArray[j] (ceqAt (ceqN n) xs ys j):=fun j h1 h2=>by
        obtain ⟨x1,y1,y2⟩:=vals_at q1 h1
        obtain ⟨x2,y3,y4⟩:=vals_at q2 h2
        obtain ⟨d1,w1,w2⟩:=e3.get' y1
        obtain ⟨d2,w3,w4⟩:=g3.get' y3
        obtain ⟨b',hb'⟩:=ceqL_get h j d1 d2 w1 w3
        have:=eqAt_D I n A.in1 (by show A.units+1+n<cLine;omega) w2 w4 y2 y4 hb'
        simp only [ceqAt,w1,w3,hb',Option.getD_some]
        exact this
      have R:=SeqAt.RcAt.tuples (A:=A) (s:=s) p1 p2 (by omega) he
      have R2:=SeqAt.RcNeAt.tuples (A:=A) (s:=s) p1 p2 (by omega) he
      rw [l1,l2] at R R2
      rw [key];exact ⟨R,R2⟩
    · rename_i m xs ys hm
      cases hm
      obtain ⟨a,us,e1,e2,e3⟩:=r1.lst_of
      obtain ⟨b,ws,g1,g2,g3⟩:=r2.lst_of
      subst e1 g1
      cases rx;cases ry
      obtain ⟨its,q1,p1,_⟩:=I.list (SqL.of e2)
      obtain ⟨its2,q2,p2,_⟩:=I.list (SqL.of g2)
      have l1:its.toArray.size=xs.length:=by rw [List.size_toArray,← q1.length,e3.length]
      have l2:its2.toArray.size=ys.length:=by rw [List.size_toArray,← q2.length,g3.length]
      have key:=ceqL_len h
      have he:∀ j (h1:j<its.toArray.size) (h2:j<its2.toArray.size),SeqAt.EqAt A.in1 s its.toArray[j] its2.toArray[j] (ceqAt (ceqN n) xs ys j):=fun j h1 h2=>by
        obtain ⟨x1,y1,y2⟩:=vals_at q1 h1
        obtain ⟨x2,y3,y4⟩:=vals_at q2 h2
        obtain ⟨d1,w1,w2⟩:=e3.get' y1
        obtain ⟨d2,w3,w4⟩:=g3.get' y3
        obtain ⟨b',hb'⟩:=ceqL_get h j d1 d2 w1 w3
        have:=eqAt_D I n A.in1 (by show A.units+1+n<cLine;omega) w2 w4 y2 y4 hb'
        simp only [ceqAt,w1,w3,hb',Option.getD_some]
        exact this
      by_cases hsz:its.toArray.size=its2.toArray.size
      · have R:=SeqAt.RcAt.lists (A:=A) (s:=s) p1.isList p2.isList hsz (by omega) he
        have R2:=SeqAt.RcNeAt.lists (A:=A) (s:=s) p1.isList p2.isList hsz (by omega) he
        have hxy:xs.length=ys.length:=by omega
        rw [l1] at R R2
        rw [key,hxy]
        rw [hxy] at R R2
        exact ⟨by simpa using R,by simpa using R2⟩
      · have hne:(xs.length==ys.length)=false:=by rw [beq_eq_false_iff_ne];omega
        rw [key,hne,Bool.and_false]
        exact ⟨SeqAt.RcAt.lists_lengths p1.isList p2.isList (by simpa using hsz) (by omega),SeqAt.RcNeAt.lists_lengths p1.isList p2.isList (by simpa using hsz) (by omega)⟩
    · cases h
theorem op_eqD (hu:X.A.units+64<cLine):OpR X (compareOp .Eq) (fun x y H Q=>∃ d e k,Rep X.K H d x∧Rep X.K H e y∧ceqN 9 d e=some k∧Q (.bl k) H):=by
  intro pins s σ H x y v u Q I rx ry h
  obtain ⟨d,e,k,r1,r2,h,q⟩:=h
  exact (rcAt_D I 9 X.A (by omega) r1 r2 rx ry h).1 X.prog X.w X.xe _ ⟨.bl k,H,I,rfl,q⟩
theorem op_neD (hu:X.A.units+64<cLine):OpR X (compareOp .NotEq) (fun x y H Q=>∃ d e k,Rep X.K H d x∧Rep X.K H e y∧ceqN 9 d e=some k∧Q (.bl (!k)) H):=by
  intro pins s σ H x y v u Q I rx ry h
  obtain ⟨d,e,k,r1,r2,h,q⟩:=h
  exact (rcAt_D I 9 X.A (by omega) r1 r2 rx ry h).2 X.prog X.w X.xe _ ⟨.bl (!k),H,I,rfl,q⟩
def eqD (x y:D):Option D:=(ceqN 9 x y).map D.bl
def neD (x y:D):Option D:=(ceqN 9 x y).map fun k=>D.bl (!k)
theorem told_eq:Told2 X.K (fun x y H Q=>∃ d e k,Rep X.K H d x∧Rep X.K H e y∧ceqN 9 d e=some k∧Q (.bl k) H) eqD:=fun H x y d vx vy Q rx ry e q=>by
  unfold eqD at e
  cases hk:ceqN 9 x y with
  | none=>rw [hk] at e;cases e
  | some k=>rw [hk] at e;cases e;exact ⟨x,y,k,rx,ry,hk,q _ H (Same.refl H) rep_bl⟩
theorem told_ne:Told2 X.K (fun x y H Q=>∃ d e k,Rep X.K H d x∧Rep X.K H e y∧ceqN 9 d e=some k∧Q (.bl (!k)) H) neD:=fun H x y d vx vy Q rx ry e q=>by
  unfold neD at e
  cases hk:ceqN 9 x y with
  | none=>rw [hk] at e;cases e
  | some k=>rw [hk] at e;cases e;exact ⟨x,y,k,rx,ry,hk,q _ H (Same.refl H) rep_bl⟩
theorem d_eq {k:Nat} (hr:Room k X.A) (ha:PE X a (tD X.K fa)) (hb:PE X b (tD X.K fb)):PE X (.Compare a [.Eq] [b] pos) (tD X.K (bind2 fa fb eqD)):=d_cmp (op_eqD hr.units) told_eq ha hb (nomark _)
theorem t_eq {k:Nat} (hr:Room k X.A) (ha:PE X a (tD X.K fa)) (hb:PE X b (tD X.K fb)):PT X (.Compare a [.Eq] [b] pos) (tT X.K fun δ=>asB (bind2 fa fb eqD δ)):=t_cmp (op_eqD hr.units) told_eq ha hb (nomark _)
theorem t_ne {k:Nat} (hr:Room k X.A) (ha:PE X a (tD X.K fa)) (hb:PE X b (tD X.K fb)):PT X (.Compare a [.NotEq] [b] pos) (tT X.K fun δ=>asB (bind2 fa fb neD δ)):=t_cmp (op_neD hr.units) told_ne ha hb (nomark _)
def andD (fa fb:DS→Option D):DS→Option D:=fun δ=>(asB (fa δ)).bind fun k=>if k=true then fb δ else some (.bl false)
def orD (fa fb:DS→Option D):DS→Option D:=fun δ=>(asB (fa δ)).bind fun k=>if k=true then some (.bl true) else fb δ
def notD (fa:DS→Option D):DS→Option D:=fun δ=>(asB (fa δ)).map fun k=>.bl (!k)
theorem d_one {op} (h:PE X a (tD X.K fa)):PE X (.BoolOp op [a] pos) (tD X.K fa):=pe_one h
theorem d_and {rest:List Expr} (ha:PE X a (tD X.K fa)) (hb:PE X (.BoolOp .And (b::rest) pos) (tD X.K fb)):PE X (.BoolOp .And (a::b::rest) pos) (tD X.K (andD fa fb)) :=
  (pe_and ha hb).imp fun σ H Q ⟨δ,d,sr,e,q⟩=>by
    unfold andD at e
    try dsimp only at e
    try dsimp only at ef
    cases ex:asB (fa δ) with
    | none=>rw [ex] at e;cases e
    | some k =>
      rw [ex] at e
      refine ⟨δ,.bl k,sr,asB_some ex,fun v H1 s1 rv=>⟨k,rv.bl_of,?_⟩⟩
      have e':(if k=true then fb δ else some (.bl false))=some d:=e
      cases k with
      | true=>exact iteT ⟨δ,d,sr.mono s1,e',fun v H' s2 rv=>q v H' (s1.trans s2) rv⟩
      | false=>refine iteF ?_;have e2:some (D.bl false)=some d:=e';cases e2;exact q _ H1 s1 rep_bl
theorem d_or {rest:List Expr} (ha:PE X a (tD X.K fa)) (hb:PE X (.BoolOp .Or (b::rest) pos) (tD X.K fb)):PE X (.BoolOp .Or (a::b::rest) pos) (tD X.K (orD fa fb)) :=
  (pe_or ha hb).imp fun σ H Q ⟨δ,d,sr,e,q⟩=>by
    unfold orD at e
    try dsimp only at e
    try dsimp only at ef
    cases ex:asB (fa δ) with
    | none=>rw [ex] at e;cases e
    | some k =>
      rw [ex] at e
      refine ⟨δ,.bl k,sr,asB_some ex,fun v H1 s1 rv=>⟨k,rv.bl_of,?_⟩⟩
      have e':(if k=true then some (.bl true) else fb δ)=some d:=e
      cases k with
      | true=>refine iteT ?_;have e2:some (D.bl true)=some d:=e';cases e2;exact q _ H1 s1 rep_bl
      | false=>exact iteF ⟨δ,d,sr.mono s1,e',fun v H' s2 rv=>q v H' (s1.trans s2) rv⟩
theorem d_not (ha:PE X a (tD X.K fa)):PE X (.UnaryOp .Not a pos) (tD X.K (notD fa)) :=
  (pe_not ha).imp fun σ H Q ⟨δ,d,sr,e,q⟩=>by
    unfold notD at e
    try dsimp only at e
    try dsimp only at ef
    cases ex:asB (fa δ) with
    | none=>rw [ex] at e;cases e
    | some k =>
      rw [ex] at e
      cases e
      exact ⟨δ,.bl k,sr,asB_some ex,fun v H1 s1 rv=>⟨k,rv.bl_of,q _ H1 s1 rep_bl⟩⟩
section
variable {ta tb:DS→Option Bool}
theorem PT.pw_and1 (h:PT X a (tT X.K ta)):PW X (.BoolOp .And [a] pos) (tT X.K ta):=L2.pw_and1 h
theorem PT.pw_or1 (h:PT X a (tT X.K ta)):PW X (.BoolOp .Or [a] pos) (tT X.K ta):=L2.pw_or1 h
theorem w_and {rest:List Expr} (ha:PT X a (tT X.K ta)) (hb:PW X (.BoolOp .And (b::rest) pos) (tT X.K tb)):PW X (.BoolOp .And (a::b::rest) pos) (tT X.K fun δ=>(ta δ).bind fun k=>if k=true then tb δ else some false) :=
  PW.imp (L2.pw_and ha hb) fun σ H Q ⟨δ,c,sr,e,q⟩=>by
    try dsimp only at e
    try dsimp only at ef
    cases ex:ta δ with
    | none=>rw [ex] at e;cases e
    | some k =>
      rw [ex] at e
      refine ⟨δ,k,sr,ex,fun H1 s1=>?_⟩
      have e':(if k=true then tb δ else some false)=some c:=e
      cases k with
      | true=>exact iteT ⟨δ,c,sr.mono s1,e',fun H' s2=>q H' (s1.trans s2)⟩
      | false=>refine iteF ?_;have e2:some false=some c:=e';cases e2;exact q H1 s1
theorem w_or {rest:List Expr} (ha:PT X a (tT X.K ta)) (hb:PW X (.BoolOp .Or (b::rest) pos) (tT X.K tb)):PW X (.BoolOp .Or (a::b::rest) pos) (tT X.K fun δ=>(ta δ).bind fun k=>if k=true then some true else tb δ) :=
  PW.imp (L2.pw_or ha hb) fun σ H Q ⟨δ,c,sr,e,q⟩=>by
    try dsimp only at e
    try dsimp only at ef
    cases ex:ta δ with
    | none=>rw [ex] at e;cases e
    | some k =>
      rw [ex] at e
      refine ⟨δ,k,sr,ex,fun H1 s1=>?_⟩
      have e':(if k=true then some true else tb δ)=some c:=e
      cases k with
      | true=>refine iteT ?_;have e2:some true=some c:=e';cases e2;exact q H1 s1
      | false=>exact iteF ⟨δ,c,sr.mono s1,e',fun H' s2=>q H' (s1.trans s2)⟩
theorem t_not (ha:PT X a (tT X.K ta)):PT X (.UnaryOp .Not a pos) (tT X.K fun δ=>(ta δ).map (!·)):=PT.imp (L2.pt_not ha) fun σ H Q ⟨δ,c,sr,e,q⟩=>by
  try dsimp only at e
  try dsimp only at ef
  cases ex:ta δ with
  | none=>rw [ex] at e;cases e
  | some k=>rw [ex] at e;cases e;exact ⟨δ,k,sr,ex,fun H1 s1=>q H1 s1⟩
end
def truD:D→Option Bool
  | .non=>some false
  | .bl b=>some b
  | .int i=>some (i != 0)
  | .tup xs=>some (!xs.isEmpty)
  | .lst xs=>some (!xs.isEmpty)
  | .fro xs=>some (!xs.isEmpty)
  | _=>none
theorem isEmpty_reps {K:PySem.W.Frag} {H:Hp} {ds:List D} {vs:List V} (h:Reps K H ds vs):(!ds.isEmpty) = !vs.isEmpty:=by
  cases ds with
  | nil=>rw [h.nil_of];rfl
  | cons d ds=>obtain ⟨v,r,rfl,_,_⟩:=h.cons_of;rfl
theorem t_truth (ha:PE X a (tD X.K fa)) (he:∀ whole,isTrue a X.env whole=(do let v ← whole;standAt a.pos;holding [v] (truthy v)):=by intro _;rfl):PT X a (tT X.K fun δ=>(fa δ).bind truD) :=
  PT.imp (pt_truth ha he) fun σ H Q ⟨δ,c,sr,e,q⟩=>by
    try dsimp only at e
    try dsimp only at ef
    cases ex:fa δ with
    | none=>rw [ex] at e;cases e
    | some x =>
      rw [ex] at e
      refine ⟨δ,x,sr,ex,fun v H1 s1 rv=>⟨c,?_,q H1 s1⟩⟩
      have e':truD x=some c:=e
      cases x with
      | non=>cases rv.non_of;cases e';rfl
      | bl b=>cases rv.bl_of;cases e';rfl
      | int i=>cases rv.int_of;cases e';rfl
      | str _=>cases e'
      | ty _=>cases e'
      | tup xs=>obtain ⟨p,us,rfl,h1,h2⟩:=rv.tup_of;cases e';exact .inr (.inl ⟨us,SqT.of h1,isEmpty_reps h2⟩)
      | lst xs=>obtain ⟨p,us,rfl,h1,h2⟩:=rv.lst_of;cases e';exact .inl ⟨us,SqL.of h1,isEmpty_reps h2⟩
      | fro xs=>obtain ⟨p,us,rfl,h1,h2⟩:=rv.fro_of;cases e';exact .inl ⟨us,h1.sq,isEmpty_reps h2⟩
theorem da_nil:PA X [] (tDA X.K fun _=>some []):=PA.imp pa_nil fun σ H Q ⟨δ,ds,sr,e,q⟩=>by cases e;exact q [] H (Same.refl H) reps_nil
def consD (fa:DS→Option D) (fs:DS→Option (List D)):DS→Option (List D):=fun δ=>(fa δ).bind fun x=>(fs δ).map fun xs=>x::xs
theorem consD_some {fa:DS→Option D} {fs:DS→Option (List D)} {δ:DS} {ds:List D} (h:consD fa fs δ=some ds):∃ x xs,fa δ=some x∧fs δ=some xs∧ds=x::xs:=by
  unfold consD at h
  try dsimp only at e
  try dsimp only at ef
  cases ex:fa δ with
  | none=>rw [ex] at h;cases h
  | some x =>
    rw [ex] at h
    cases ey:fs δ with
    | none=>rw [ey] at h;cases h
    | some xs=>rw [ey] at h;cases h;exact ⟨x,xs,rfl,rfl,rfl⟩
theorem da_cons {fs:DS→Option (List D)} (ha:PE X e (tD X.K fa)) (hr:PA X es (tDA X.K fs)) (hs:starEach (e::es) X.env=(false,eval e X.env)::starEach es X.env:=by rfl):PA X (e::es) (tDA X.K (consD fa fs)) :=
  PA.imp (pa_cons ha hr hs) fun σ H Q ⟨δ,ds,sr,ef,q⟩=>by
    obtain ⟨x,xs,ex,ey,rfl⟩:=consD_some ef
    exact ⟨δ,x,sr,ex,fun v H1 s1 rv=>⟨δ,xs,sr.mono s1,ey,fun vs H2 s2 rs=>q (v::vs) H2 (s1.trans s2) (reps_cons (rv.mono s2) rs)⟩⟩
theorem f_lst {fs:DS→Option (List D)} (h:PA X es (tDA X.K fs)):PE X (.List es pos) (tF X.K fun δ=>(fs δ).bind fun ds=>if fit ds.length=true then some ds else none) :=
  (pe_lst h).imp fun σ H Q ⟨δ,ds',sr,e,q⟩=>by
    try dsimp only at e
    try dsimp only at ef
    cases ex:fs δ with
    | none=>rw [ex] at e;cases e
    | some ds =>
      rw [ex] at e
      have e':(if fit ds.length=true then some ds else none)=some ds':=e
      by_cases hf:fit ds.length=true
      · rw [if_pos hf] at e';cases e'
        exact ⟨δ,ds',sr,ex,fun vs H1 s1 rs=>⟨by rw [rs.length];exact fit_le hf,fun p hp=>q p vs _ (s1.free hp) (s1.trans (same_new hp _)) upd_same (rs.mono (same_new hp _))⟩⟩
      · rw [if_neg hf] at e';cases e'
theorem d_lst {fs:DS→Option (List D)} (h:PA X es (tDA X.K fs)):PE X (.List es pos) (tD X.K fun δ=>((fs δ).bind fun ds=>if fit ds.length=true then some ds else none).map D.lst):=d_of_f (f_lst h)
def ToldC (K:PySem.W.Frag) (r:List V→Hp→VK→Prop) (g:List D→Option D):Prop:=∀ (H:Hp) (ds:List D) (d:D) (vs:List V) (Q:VK),Reps K H ds vs→g ds=some d→(∀ v H',Same H H'→Rep K H' d v→Q v H')→r vs H Q
theorem toldC_ok {r:List V→Hp→VK→Prop} {g:List D→Option D} {fs:DS→Option (List D)} (hr:ToldC X.K r g):∀ σ H Q,tD X.K (fun δ=>(fs δ).bind g) σ H Q→tCB r (tDA X.K fs) σ H Q:=fun σ H Q ⟨δ,d,sr,e,q⟩=>by
  try dsimp only at e
  try dsimp only at ef
  cases ex:fs δ with
  | none=>rw [ex] at e;cases e
  | some ds =>
    rw [ex] at e
    exact ⟨δ,ds,sr,ex,fun vs H1 s1 rs=>hr H1 ds d vs Q rs e fun v H' s2 rv=>q v H' (s1.trans s2) rv⟩
theorem d_callB {x:Str} {id:String} {r:List V→Hp→VK→Prop} {g:List D→Option D} {fs:DS→Option (List D)} (hc:CallR X (.builtin id) r) (hr:ToldC X.K r g) (hg:Gl X x) (hm:X.mg x=none) (hv:bootBuiltins x=some (.builtin id)) (ha:PA X (e::es) (tDA X.K fs))
    (hn:x ≠ "__name__" := by decide) (hdb:(x==("__debug__" : Str))=false:=by decide)
    (he:starEach (e::es) X.env=(false,eval e X.env)::starEach es X.env:=by rfl) (hpl:(backTo pos (starEach es X.env)).any (·.1)=false:=by rfl):PE X (.Call (.Name x p) (e::es) [] pos) (tD X.K fun δ=>(fs δ).bind g) :=
  (pe_callB hc hg hm hv ha hn hdb he hpl).imp (toldC_ok hr)
theorem d_callTy {x:Str} {T:String} {r:List V→Hp→VK→Prop} {g:List D→Option D} {fs:DS→Option (List D)} (hc:CallR X (.type T) r) (hr:ToldC X.K r g) (hg:Gl X x) (hm:X.mg x=none) (hv:bootBuiltins x=some (.type T)) (ha:PA X (e::es) (tDA X.K fs))
    (hn:x ≠ "__name__" := by decide) (hdb:(x==("__debug__" : Str))=false:=by decide)
    (he:starEach (e::es) X.env=(false,eval e X.env)::starEach es X.env:=by rfl) (hpl:(backTo pos (starEach es X.env)).any (·.1)=false:=by rfl):PE X (.Call (.Name x p) (e::es) [] pos) (tD X.K fun δ=>(fs δ).bind g) :=
  (pe_callTy hc hg hm hv ha hn hdb he hpl).imp (toldC_ok hr)
theorem d_ty {x:Str} {n:String} (hg:Gl X x) (hm:X.mg x=none) (hv:bootBuiltins x=some (.type n)) (hn:x ≠ "__name__" := by decide) (hd:(x==("__debug__" : Str))=false:=by decide):PE X (.Name x pos) (tD X.K fun _=>some (.ty n)) :=
  (pe_bltn (v:=.ty n) hg hm hv rfl hn hd).imp fun σ H Q ⟨δ,d,sr,e,q⟩=>by cases e;exact q _ H (Same.refl H) rep_ty
def itemsD:D→Option (List D)
  | .tup xs=>some xs
  | .lst xs=>some xs
  | .fro xs=>some xs
  | _=>none
theorem items_seq {K:PySem.W.Frag} {H:Hp} {d:D} {ds:List D} {v:V} (h:itemsD d=some ds) (r:Rep K H d v):∃ a xs,v = .ref a∧(SqL K H a xs∨SqT K H a xs)∧Reps K H ds xs:=by
  cases d with
  | tup xs=>cases h;obtain ⟨a,us,e1,e2,e3⟩:=r.tup_of;exact ⟨a,us,e1,.inr (SqT.of e2),e3⟩
  | lst xs=>cases h;obtain ⟨a,us,e1,e2,e3⟩:=r.lst_of;exact ⟨a,us,e1,.inl (SqL.of e2),e3⟩
  | fro xs=>cases h;obtain ⟨a,us,e1,e2,e3⟩:=r.fro_of;exact ⟨a,us,e1,.inl e2.sq,e3⟩
  | _=>cases h
def lenD:List D→Option D
  | [d]=>(itemsD d).map fun xs=>.int xs.length
  | _=>none
theorem told_len:ToldC X.K (fun xs H Q=>∃ p ys,xs=[.ref p]∧(SqL X.K H p ys∨SqT X.K H p ys)∧Q (.int ys.length) H) lenD:=fun H ds d vs Q rs e q=>by
  unfold lenD at e
  split at e
  · rename_i d'
    obtain ⟨v,r,rfl,rv,rn⟩:=rs.cons_of
    cases rn.nil_of
    cases hi:itemsD d' with
    | none=>rw [hi] at e;cases e
    | some xs =>
      rw [hi] at e;cases e
      obtain ⟨a,us,rfl,hs,r'⟩:=items_seq hi rv
      exact ⟨a,us,rfl,hs,q _ H (Same.refl H) (by rw [r'.length];exact rep_int)⟩
  · cases e
theorem d_len {fs:DS→Option (List D)} (hg:Gl X "len") (hm:X.mg "len" = none) (ha:PA X [e] (tDA X.K fs)) (he:starEach [e] X.env=(false,eval e X.env)::starEach [] X.env:=by rfl):PE X (.Call (.Name "len" p) [e] [] pos) (tD X.K fun δ=>(fs δ).bind lenD) :=
  d_callB call_len_seq told_len hg hm PySem.boot_len ha (he:=he)
def tupleD:List D→Option D
  | [d]=>(itemsD d).map .tup
  | _=>none
theorem told_tuple:ToldC X.K (fun xs H Q=>∃ p ys,xs=[.ref p]∧((SqL X.K H p ys∧∀ l,H l=none→Q (.ref l) (upd H l (.tup ys)))∨(SqT X.K H p ys∧Q (.ref p) H))) tupleD:=fun H ds d vs Q rs e q=>by
  unfold tupleD at e
  split at e
  · rename_i d'
    obtain ⟨v,r,rfl,rv,rn⟩:=rs.cons_of
    cases rn.nil_of
    cases hi:itemsD d' with
    | none=>rw [hi] at e;cases e
    | some xs =>
      rw [hi] at e;cases e
      cases d' with
      | tup ys=>cases hi;obtain ⟨a,us,rfl,e2,e3⟩:=rv.tup_of;exact ⟨a,us,rfl,.inr ⟨SqT.of e2,q _ H (Same.refl H) (rep_tup e2 e3)⟩⟩
      | lst ys=>cases hi;obtain ⟨a,us,rfl,e2,e3⟩:=rv.lst_of;exact ⟨a,us,rfl,.inl ⟨SqL.of e2,fun l hl=>q _ _ (same_new hl _) (rep_tup upd_same (e3.mono (same_new hl _)))⟩⟩
      | fro ys=>cases hi;obtain ⟨a,us,rfl,e2,e3⟩:=rv.fro_of;exact ⟨a,us,rfl,.inl ⟨e2.sq,fun l hl=>q _ _ (same_new hl _) (rep_tup upd_same (e3.mono (same_new hl _)))⟩⟩
      | _=>cases hi
  · cases e
theorem d_tuple {fs:DS→Option (List D)} (hg:Gl X "tuple") (hm:X.mg "tuple" = none) (ha:PA X [e] (tDA X.K fs)) (he:starEach [e] X.env=(false,eval e X.env)::starEach [] X.env:=by rfl) (hv:bootBuiltins "tuple" = some (.type "tuple"):=by decide +kernel):PE X (.Call (.Name "tuple" p) [e] [] pos) (tD X.K fun δ=>(fs δ).bind tupleD) :=
  d_callTy call_tuple_of told_tuple hg hm hv ha (he:=he)
def list1:List D→Option (List D)
  | [d]=>itemsD d
  | _=>none
theorem f_list {fs:DS→Option (List D)} (hg:Gl X "list") (hm:X.mg "list" = none) (ha:PA X [e] (tDA X.K fs)) (he:starEach [e] X.env=(false,eval e X.env)::starEach [] X.env:=by rfl) (hv:bootBuiltins "list" = some (.type "list"):=by decide +kernel):PE X (.Call (.Name "list" p) [e] [] pos) (tF X.K fun δ=>(fs δ).bind list1) :=
  (pe_callTy call_list_of hg hm hv ha (he:=he)).imp fun σ H Q ⟨δ,d,sr,e,q⟩=>by
    try dsimp only at e
    try dsimp only at ef
    cases ex:fs δ with
    | none=>rw [ex] at e;cases e
    | some ds =>
      rw [ex] at e
      refine ⟨δ,ds,sr,ex,fun vs H1 s1 rs=>?_⟩
      have e':list1 ds=some d:=e
      unfold list1 at e'
      split at e'
      · rename_i d'
        obtain ⟨v,r,rfl,rv,rn⟩:=rs.cons_of
        cases rn.nil_of
        obtain ⟨a,us,rfl,hs,r'⟩:=items_seq e' rv
        exact ⟨a,us,rfl,hs,fun l hl=>q l us _ (s1.free hl) (s1.trans (same_new hl _)) upd_same (r'.mono (same_new hl _))⟩
      · cases e'
theorem d_list {fs:DS→Option (List D)} (hg:Gl X "list") (hm:X.mg "list" = none) (ha:PA X [e] (tDA X.K fs)) (he:starEach [e] X.env=(false,eval e X.env)::starEach [] X.env:=by rfl) (hv:bootBuiltins "list" = some (.type "list"):=by decide +kernel):PE X (.Call (.Name "list" p) [e] [] pos) (tD X.K fun δ=>((fs δ).bind list1).map D.lst) :=
  d_of_f (f_list hg hm ha he hv)
end
end L2
set_option Elab.async false
set_option linter.all false
set_option maxRecDepth 100000
namespace L2
open PySem PySem.Spec PyProof.Rows
section
variable {X:Cx} {a b e:Expr} {es:List Expr} {pos p:Pos} {fa fb:DS→Option D}
theorem reps_atI {K:PySem.W.Frag} {H:Hp} {ds:List D} {vs:List V} {i:Int} {d:D} (r:Reps K H ds vs) (h:atI ds i=some d):∃ v,atI vs i=some v∧Rep K H d v:=by
  unfold atI at h ⊢
  rw [r.length]
  cases hj:ixN ds.length i with
  | none=>rw [hj] at h;cases h
  | some j =>
    rw [hj] at h
    obtain ⟨v,h1,h2⟩:=r.get (i:=j) (d:=d) h
    exact ⟨v,h1,h2⟩
def ixD:D→D→Option D
  | d,.int i=>(itemsD d).bind fun xs=>atI xs i
  | _,_=>none
theorem told_ix:Told2 X.K (fun x y H Q=>rIxL X.K x y H Q∨rIxT X.K x y H Q) ixD:=fun H x y d vx vy Q rx ry e q=>by
  unfold ixD at e
  split at e
  · rename_i i
    cases hi:itemsD x with
    | none=>rw [hi] at e;cases e
    | some xs =>
      rw [hi] at e
      obtain ⟨a,us,e1,hs,r'⟩:=items_seq hi rx
      obtain ⟨v,h1,h2⟩:=reps_atI r' e
      rcases hs with hs | hs
      · exact .inl ⟨a,us,i,v,e1,ry.int_of,hs,h1,q v H (Same.refl H) h2⟩
      · exact .inr ⟨a,us,i,v,e1,ry.int_of,hs,h1,q v H (Same.refl H) h2⟩
  · cases e
theorem d_ix (ha:PE X a (tD X.K fa)) (hb:PE X b (tD X.K fb)) (hs:PlainIx b:=by intro _ _;rfl):PE X (.Subscript a b pos) (tD X.K (bind2 fa fb ixD)) :=
  (pe_ix (ix_list.or ix_tup) ha hb hs).imp (told2_op told_ix)
def tPD (K:PySem.W.Frag) (f:DS→Option (Option Int)):TO:=fun σ H Q=>∃ δ o,SRep K H σ δ∧f δ=some o∧∀ H',Same H H'→Q o H'
theorem o_none:PO X none (tPD X.K fun _=>some none):=fun pins s σ H Q I ⟨δ,o,sr,e,q⟩=>by cases e;exact po_none pins s σ H Q I (q H (Same.refl H))
def asI:Option D→Option (Option Int)
  | some (.int i)=>some (some i)
  | _=>none
theorem o_some (h:PE X e (tD X.K fa)):PO X (some e) (tPD X.K fun δ=>asI (fa δ)):=fun pins s σ H Q I ⟨δ,o,sr,ef,q⟩=>by
  refine po_some h pins s σ H Q I ?_
  dsimp only at ef
  unfold asI at ef
  split at ef
  · rename_i i hi
    cases ef
    exact ⟨δ,.int i,sr,hi,fun v H1 s1 rv=>⟨i,rv.int_of,q H1 s1⟩⟩
  · cases ef
def cutD (xs:List D) (lo hi:Option Int):List D:=(xs.drop (HT.sIx xs.length 0 lo)).take (HT.sIx xs.length xs.length hi-HT.sIx xs.length 0 lo)
theorem reps_cut {K:PySem.W.Frag} {H:Hp} {ds:List D} {vs:List V} (r:Reps K H ds vs) (lo hi:Option Int):Reps K H (cutD ds lo hi) (cutV vs lo hi):=by
  unfold cutD cutV
  rw [r.length]
  exact (r.drop _).take _
def slD (d:D) (lo hi:Option Int):Option D:=match d with
  | .tup xs=>some (.tup (cutD xs lo hi))
  | .lst xs=>some (.lst (cutD xs lo hi))
  | .fro xs=>some (.lst (cutD xs lo hi))
  | _=>none
def slF (fa:DS→Option D) (fl fh:DS→Option (Option Int)):DS→Option D:=fun δ=>(fa δ).bind fun d=>(fl δ).bind fun l=>(fh δ).bind fun h=>slD d l h
theorem slF_some {fa:DS→Option D} {fl fh:DS→Option (Option Int)} {δ:DS} {d:D} (h:slF fa fl fh δ=some d):∃ x l u,fa δ=some x∧fl δ=some l∧fh δ=some u∧slD x l u=some d:=by
  unfold slF at h
  try dsimp only at e
  try dsimp only at ef
  cases ex:fa δ with
  | none=>rw [ex] at h;cases h
  | some x =>
    rw [ex] at h
    cases el:fl δ with
    | none=>rw [el] at h;cases h
    | some l =>
      rw [el] at h
      cases eh:fh δ with
      | none=>rw [eh] at h;cases h
      | some u=>rw [eh] at h;exact ⟨x,l,u,rfl,rfl,rfl,h⟩
theorem whole_cut (xs:List D) {lo hi:Option Int} (h:HT.sIx xs.length 0 lo=0∧HT.sIx xs.length xs.length hi=xs.length):cutD xs lo hi=xs:=by
  unfold cutD
  rw [h.1,h.2,List.drop_zero,Nat.sub_zero,List.take_length]
theorem d_slice {lo hi:Option Expr} {p2:Pos} {fl fh:DS→Option (Option Int)} (ha:PE X a (tD X.K fa)) (hl:PO X lo (tPD X.K fl)) (hu:PO X hi (tPD X.K fh)):PE X (.Subscript a (.Slice lo hi none p2) pos) (tD X.K (slF fa fl fh)) :=
  (pe_slice (sl_tup0.or (sl_tup.or sl_list)) ha hl hu).imp fun σ H Q ⟨δ,d,sr,e,q⟩=>by
    obtain ⟨x,l,u,ex,el,eh,es⟩:=slF_some e
    refine ⟨δ,x,sr,ex,fun v H1 s1 rv=>⟨δ,l,sr.mono s1,el,fun H2 s2=>⟨δ,u,sr.mono (s1.trans s2),eh,fun H3 s3=>?_⟩⟩⟩
    have S:=s1.trans (s2.trans s3)
    have rv:=(rv.mono s2).mono s3
    cases x with
    | tup xs =>
      cases es
      obtain ⟨a,us,rfl,e2,e3⟩:=rv.tup_of
      by_cases hw:HT.sIx us.length 0 l=0∧HT.sIx us.length us.length u=us.length
      · refine .inl ⟨a,us,rfl,e2,hw,q _ H3 S (rep_tup e2 ?_)⟩
        rw [e3.length] at hw
        rw [whole_cut xs hw];exact e3
      · exact .inr (.inl ⟨a,us,rfl,SqT.of e2,hw,fun p hp=>q _ _ (S.trans (same_new hp _)) (rep_tup upd_same ((reps_cut e3 l u).mono (same_new hp _)))⟩)
    | lst xs =>
      cases es
      obtain ⟨a,us,rfl,e2,e3⟩:=rv.lst_of
      exact .inr (.inr ⟨a,us,rfl,SqL.of e2,fun p hp=>q _ _ (S.trans (same_new hp _)) (rep_lst upd_same ((reps_cut e3 l u).mono (same_new hp _)))⟩)
    | fro xs =>
      cases es
      obtain ⟨a,us,rfl,e2,e3⟩:=rv.fro_of
      exact .inr (.inr ⟨a,us,rfl,e2.sq,fun p hp=>q _ _ (S.trans (same_new hp _)) (rep_lst upd_same ((reps_cut e3 l u).mono (same_new hp _)))⟩)
    | _=>cases es
def kindD:D→Option String
  | .non=>some "NoneType"
  | .bl _=>some "bool"
  | .int _=>some "int"
  | .str _=>some "str"
  | .tup _=>some "tuple"
  | .lst _=>some "list"
  | _=>none
def isiD:List D→Option D
  | [d,.ty c]=>(kindD d).bind fun t=>if c = "int" ∨ c = "bool" ∨ c = "tuple" ∨ c = "list" ∨ c = "str" then some (.bl (t==c || (t == "bool" && c == "int"))) else none
  | _=>none
theorem tyOf_D {K:PySem.W.Frag} {H:Hp} {d:D} {t:String} {v:V} (h:kindD d=some t) (r:Rep K H d v):TyOf K H v (.type t):=by
  cases d with
  | non=>cases h;cases r.non_of;exact .non
  | bl b=>cases h;cases r.bl_of;exact .bl b
  | int i=>cases h;cases r.int_of;exact .int i
  | str x=>cases h;cases r.str_of;exact .str x
  | tup xs=>cases h;obtain ⟨a,us,rfl,e2,_⟩:=r.tup_of;exact .tup e2
  | lst xs=>cases h;obtain ⟨a,us,rfl,e2,_⟩:=r.lst_of;exact .lst e2
  | _=>cases h
theorem kind_one (K:PySem.W.Frag) {t c:String} (ht:t = "NoneType" ∨ t = "bool" ∨ t = "int" ∨ t = "str" ∨ t = "tuple" ∨ t = "list") (hc:c = "int" ∨ c = "bool" ∨ c = "tuple" ∨ c = "list" ∨ c = "str") :
    PySem.W.kitOne K (.type t) (.type c)=some (t==c || (t == "bool" && c == "int")):=by
  rcases ht with rfl | rfl | rfl | rfl | rfl | rfl<;>rcases hc with rfl | rfl | rfl | rfl | rfl<;>with_unfolding_all rfl
theorem kindD_in {d:D} {t:String} (h:kindD d=some t):t = "NoneType" ∨ t = "bool" ∨ t = "int" ∨ t = "str" ∨ t = "tuple" ∨ t = "list" := by
  cases d<;>first | (cases h;simp;done) | cases h
theorem call_isi:CallR X (.builtin "isinstance") (fun xs H Q=>∃ d x c t k,xs=[x,.ty c]∧Rep X.K H d x∧kindD d=some t∧PySem.W.kitOne X.K (.type t) (.type c)=some k∧Q (.bl k) H):=by
  intro pins s σ H xs us Q I r h
  obtain ⟨d,x,c,t,k,rfl,rd,hk,hkit,q⟩:=h
  obtain ⟨u,w',rfl,rx,ry⟩:=vals2 r
  cases ry
  exact isinst_ok I rx (tyOf_D hk rd) hkit fun tk=>⟨.bl k,H,I.tok tk,rfl,q⟩
theorem told_isi:ToldC X.K (fun xs H Q=>∃ d x c t k,xs=[x,.ty c]∧Rep X.K H d x∧kindD d=some t∧PySem.W.kitOne X.K (.type t) (.type c)=some k∧Q (.bl k) H) isiD:=fun H ds d vs Q rs e q=>by
  unfold isiD at e
  split at e
  · rename_i d' c
    obtain ⟨v,r,rfl,rv,rn⟩:=rs.cons_of
    obtain ⟨v2,r2,rfl,rv2,rn2⟩:=rn.cons_of
    cases rn2.nil_of
    cases rv2.ty_of
    cases hk:kindD d' with
    | none=>rw [hk] at e;cases e
    | some t =>
      rw [hk] at e
      have e':(if c = "int" ∨ c = "bool" ∨ c = "tuple" ∨ c = "list" ∨ c = "str" then some (D.bl (t==c || (t == "bool" && c == "int"))) else none)=some d:=e
      by_cases hc:c = "int" ∨ c = "bool" ∨ c = "tuple" ∨ c = "list" ∨ c = "str"
      · rw [if_pos hc] at e';cases e'
        exact ⟨d',v,c,t,_,rfl,rv,hk,kind_one X.K (kindD_in hk) hc,q _ H (Same.refl H) rep_bl⟩
      · rw [if_neg hc] at e';cases e'
  · cases e
theorem d_isi {b:Expr} {fs:DS→Option (List D)} (hg:Gl X "isinstance") (hm:X.mg "isinstance" = none) (ha:PA X [e,b] (tDA X.K fs)) (he:starEach [e,b] X.env=(false,eval e X.env)::starEach [b] X.env:=by rfl) (hpl:(backTo pos (starEach [b] X.env)).any (·.1)=false:=by rfl)
    (hv:bootBuiltins "isinstance" = some (.builtin "isinstance"):=by decide +kernel):PE X (.Call (.Name "isinstance" p) [e,b] [] pos) (tD X.K fun δ=>(fs δ).bind isiD) :=
  d_callB call_isi told_isi hg hm hv ha (he:=he) (hpl:=hpl)
def boolsD:List D→Option (List Bool)
  | []=>some []
  | .bl b::r=>(boolsD r).map fun bs=>b::bs
  | _=>none
theorem bools_reps {K:PySem.W.Frag} {H:Hp}:∀ {ds:List D} {bs:List Bool} {vs:List V},boolsD ds=some bs→Reps K H ds vs→vs=bs.map V.bl
  | [],bs,vs,h,r=>by cases h;exact r.nil_of
  | d::ds,bs,vs,h,r=>by
    cases d with
    | bl b =>
      unfold boolsD at h
      cases hb:boolsD ds with
      | none=>rw [hb] at h;cases h
      | some bs' =>
        rw [hb] at h;cases h
        obtain ⟨v,r',rfl,rv,rn⟩:=r.cons_of
        cases rv.bl_of
        rw [bools_reps hb rn];rfl
    | _=>cases h
theorem old_keptI {s:Shared} {h':Heap} {o:Obj} (hk:∀ b ob,b∉[s.heap.objs.size]→(s.heap.push o).get? b=some ob→h'.get? b=some ob):∀ b ob,s.heap.get? b=some ob→h'.get? b=some ob:=fun b ob e =>
  hk b ob (by simpa using Nat.ne_of_lt (Heap.lt_size e)) (Heap.get?_push_of_some _ e)
theorem call_allB (hc:X.calm=true):CallR X (.builtin "all") (fun xs H Q=>∃ (a:Addr) (bs:List Bool),xs=[.ref a]∧H a=some (.lst (bs.map V.bl))∧Q (.bl (bs.all id)) H):=by
  intro pins s σ H xs us Q I r h
  obtain ⟨a,bs,rfl,ha,q⟩:=h
  obtain ⟨u,rfl,rx⟩:=vals1 r
  cases rx
  obtain ⟨its,rv,pl,hz⟩:=I.list (SqL.of ha)
  have hlen:=rv.length
  have hl1:its.length=bs.length:=by rw [← hlen,List.length_map]
  have hne:a≠s.heap.objs.size:=Nat.ne_of_lt (I.hok.lt ha)
  refine call_all_walk (wpAny_pyIter_list pl.isList ⟨s.heap.objs.size,_,_,_,_,_,fun i=>bs.getD i false,rfl,Walks.list (A:=X.A.in1) (I.ok.hd hc) s.heap.objs.size a hne its.toArray,⟨⟨_,Heap.get?_push_size _ rfl,rfl,rfl⟩,pl.isList.push _⟩,?_,?_⟩)
  · intro i v s' Q' E' hP hQ'
    have hi:i<its.length:=by
      have:=hP
      simp at this
      obtain ⟨h1,_⟩:=List.getElem?_eq_some_iff.mp this
      exact h1
    obtain ⟨x,z1,z2⟩:=vals_at rv (j:=i) (by simpa using hi)
    rw [List.getElem?_map,List.getElem?_eq_getElem (by omega)] at z1
    have z1':V.bl bs[i]=x:=Option.some.inj z1
    subst z1'
    have hv:v = .bool bs[i]:=by
      have h2:its.toArray[i]? = some v:=hP
      rw [Array.getElem?_eq_getElem (by simpa using hi)] at h2
      have h3:=Option.some.inj h2
      rw [← h3];exact z2
    subst hv
    have hg:bs.getD i false=bs[i]:=by simp [List.getD,List.getElem?_eq_getElem (show i<bs.length by omega)]
    exact wpAny_truthy_bool (by rw [← hg];exact hQ')
  · intro h' tk hk
    have e:(List.range its.toArray.size).all (fun i=>bs.getD i false)=bs.all id:=by
      rw [List.size_toArray,hl1]
      rw [Bool.eq_iff_iff,List.all_eq_true,List.all_eq_true]
      constructor
      · intro z b hb
        obtain ⟨i,hi,rfl⟩:=List.mem_iff_getElem.mp hb
        have:=z i (List.mem_range.mpr hi)
        simpa [List.getD,List.getElem?_eq_getElem hi] using this
      · intro z i hi
        have hi:=List.mem_range.mp hi
        have:=z bs[i] (List.getElem_mem hi)
        simpa [List.getD,List.getElem?_eq_getElem hi] using this
    rw [e]
    exact ⟨.bl (bs.all id),H,I.kept (old_keptI hk),rfl,q⟩
def allD:List D→Option D
  | [.lst xs]=>(boolsD xs).map fun bs=>.bl (bs.all id)
  | _=>none
theorem told_all:ToldC X.K (fun xs H Q=>∃ (a:Addr) (bs:List Bool),xs=[.ref a]∧H a=some (.lst (bs.map V.bl))∧Q (.bl (bs.all id)) H) allD:=fun H ds d vs Q rs e q=>by
  unfold allD at e
  split at e
  · rename_i xs
    obtain ⟨v,r,rfl,rv,rn⟩:=rs.cons_of
    cases rn.nil_of
    obtain ⟨a,us,rfl,e2,e3⟩:=rv.lst_of
    cases hb:boolsD xs with
    | none=>rw [hb] at e;cases e
    | some bs=>rw [hb] at e;cases e;exact ⟨a,bs,rfl,by rw [e2,bools_reps hb e3],q _ H (Same.refl H) rep_bl⟩
  · cases e
theorem d_all {fs:DS→Option (List D)} (hc:X.calm=true) (hg:Gl X "all") (hm:X.mg "all" = none) (ha:PA X [e] (tDA X.K fs)) (he:starEach [e] X.env=(false,eval e X.env)::starEach [] X.env:=by rfl) (hv:bootBuiltins "all" = some (.builtin "all"):=by decide +kernel):PE X (.Call (.Name "all" p) [e] [] pos) (tD X.K fun δ=>(fs δ).bind allD) :=
  d_callB (call_allB hc) told_all hg hm hv ha (he:=he)
def spD (K:PySem.W.Frag) (F:List D→Option D):Sp:=fun vs H Q _=>∃ ds d,TabK K H∧Reps K H ds vs∧F ds=some d∧∀ v H',Same H H'→Rep K H' d v→Q v H'
def Ca (P:Program) (w:World) (K:PySem.W.Frag) (mg:Str→Option Value) (base:Heap) (k:Nat) (x:Str) (F:List D→Option D):Prop :=
  ∃ (f:Addr) (fd:FuncData) (ps:List Str),mg x=some (.ref f)∧FnOk P w K mg base CX0 k f fd ps (spD K F)∧Binds K fd ps []∧PySem.W.keepIn K (.ref f)=true
theorem Ca.mono {P:Program} {w:World} {K:PySem.W.Frag} {mg:Str→Option Value} {base:Heap} {j k:Nat} {x:Str} {F:List D→Option D} (c:Ca P w K mg base j x F) (h:j≤k):Ca P w K mg base k x F:=by
  obtain ⟨f,fd,ps,h1,h2,h3,h4⟩:=c
  exact ⟨f,fd,ps,h1,h2.mono h,h3,h4⟩
theorem d_call {k:Nat} {x:Str} {F:List D→Option D} {fs:DS→Option (List D)} (c:Ca X.prog X.w X.K X.mg X.base k x F) (hr:Room k X.A) (hg:Gl X x) (ha:PA X (e::es) (tDA X.K fs))
    (hd:(x==("__debug__" : Str))=false:=by decide) (he:starEach (e::es) X.env=(false,eval e X.env)::starEach es X.env:=by rfl) (hpl:(backTo pos (starEach es X.env)).any (·.1)=false:=by rfl):PE X (.Call (.Name x p) (e::es) [] pos) (tD X.K fun δ=>(fs δ).bind F):=by
  obtain ⟨f,fd,ps,h1,h2,h3,h4⟩:=c
  exact (pe_call h2 hr hg h1 h4 h3 .nil pass0 ha hd he hpl).imp fun σ H Q ⟨δ,d,sr,e,q⟩=>by
    try dsimp only at e
    try dsimp only at ef
    cases ex:fs δ with
    | none=>rw [ex] at e;cases e
    | some ds =>
      rw [ex] at e
      exact ⟨δ,ds,sr,ex,fun vs H1 s1 rs=>⟨ds,d,sr.2.1.mono s1,by rw [List.append_nil];exact rs,e,fun v H' s2 rv=>q v H' (s1.trans s2) rv⟩⟩
end
end L2
set_option Elab.async false
set_option linter.all false
set_option maxRecDepth 100000
namespace L2
open PySem PySem.Spec PyProof.Rows
def GRep (K:PySem.W.Frag) (H:Hp) (gh:List (V × D)):Prop:=∀ p∈gh,Rep K H p.2 p.1
theorem GRep.mono {K:PySem.W.Frag} {H H':Hp} {gh:List (V × D)} (s:Same H H') (h:GRep K H gh):GRep K H' gh:=fun p hp=>(h p hp).mono s
structure ItD (K:PySem.W.Frag) (J:It) (gh:List (V × D)) (ds:List D):Prop where
  go:∀ i H,GRep K H gh→i<ds.length→J.go i H
  yld:∀ i H x H' d,GRep K H gh→ds[i]? = some d→J.yld i H x H'→Same H H'∧Rep K H' d x
  stop:∀ H,GRep K H gh→J.stop ds.length H
def tI (K:PySem.W.Frag) (f:DS→Option (List D)):TI:=fun σ H R=>∃ δ ds,SRep K H σ δ∧f δ=some ds∧∀ J gh H',Same H H'→GRep K H' gh→ItD K J gh ds→ds.length≤sizeLine→R J H'
def tIR (K:PySem.W.Frag) (f:DS→Option (List D)):TI:=fun σ H R=>∃ δ ds,SRep K H σ δ∧f δ=some ds∧∀ J H',Same H H'→ItD K J [] ds→ds.length≤sizeLine→R J H'
theorem PI.imp {X:Cx} {tg e:Expr} {t t':TI} (h:PI X tg e t) (i:∀ σ H R,t' σ H R→t σ H R):PI X tg e t':=fun pins s σ H R I q=>h pins s σ H R I (i σ H R q)
section
variable {X:Cx} {tg a b e:Expr} {es:List Expr} {pos p:Pos} {fa fb:DS→Option D}
theorem grep_nil {K:PySem.W.Frag} {H:Hp}:GRep K H []:=fun _ h=>nomatch h
theorem grep_one {K:PySem.W.Frag} {H:Hp} {v:V} {d:D} (h:Rep K H d v):GRep K H [(v,d)]:=fun p hp=>by
  have e:p=(v,d):=by simpa using hp
  subst e;exact h
theorem i_of_r {f:DS→Option (List D)} (h:PI X tg e (tIR X.K f)):PI X tg e (tI X.K f):=h.imp fun σ H R ⟨δ,ds,sr,ef,q⟩=>⟨δ,ds,sr,ef,fun J H' s i l=>q J [] H' s grep_nil i l⟩
theorem itd_lst {K:PySem.W.Frag} {a:Addr} {ds:List D}:ItD K (Itl K a) [(.ref a,.lst ds)] ds where
  go:=fun i H g hi=>by
    obtain ⟨a',us,e1,e2,e3⟩:=(g _ (List.mem_singleton.mpr rfl)).lst_of
    injection e1 with e1;subst e1
    have hl:=e3.length
    exact ⟨us,us[i],SqL.of e2,List.getElem?_eq_getElem (by omega)⟩
  yld:=fun i H x H' d g hd ⟨e,y⟩=>by
    subst e
    obtain ⟨a',us,e1,e2,e3⟩:=(g _ (List.mem_singleton.mpr rfl)).lst_of
    injection e1 with e1;subst e1
    obtain ⟨v,z1,z2⟩:=e3.get hd
    have:=y us (SqL.of e2)
    rw [z1] at this;cases this
    exact ⟨Same.refl _,z2⟩
  stop:=fun H g=>by
    obtain ⟨a',us,e1,e2,e3⟩:=(g _ (List.mem_singleton.mpr rfl)).lst_of
    injection e1 with e1;subst e1
    exact ⟨us,SqL.of e2,Nat.le_of_eq e3.length⟩
theorem itd_fro {K:PySem.W.Frag} {a:Addr} {ds:List D}:ItD K (Itl K a) [(.ref a,.fro ds)] ds where
  go:=fun i H g hi=>by
    obtain ⟨a',us,e1,e2,e3⟩:=(g _ (List.mem_singleton.mpr rfl)).fro_of
    injection e1 with e1;subst e1
    have hl:=e3.length
    exact ⟨us,us[i],e2.sq,List.getElem?_eq_getElem (by omega)⟩
  yld:=fun i H x H' d g hd ⟨e,y⟩=>by
    subst e
    obtain ⟨a',us,e1,e2,e3⟩:=(g _ (List.mem_singleton.mpr rfl)).fro_of
    injection e1 with e1;subst e1
    obtain ⟨v,z1,z2⟩:=e3.get hd
    have:=y us e2.sq
    rw [z1] at this;cases this
    exact ⟨Same.refl _,z2⟩
  stop:=fun H g=>by
    obtain ⟨a',us,e1,e2,e3⟩:=(g _ (List.mem_singleton.mpr rfl)).fro_of
    injection e1 with e1;subst e1
    exact ⟨us,e2.sq,Nat.le_of_eq e3.length⟩
theorem itd_tup {K:PySem.W.Frag} {a:Addr} {ds:List D}:ItD K (Itt K a) [(.ref a,.tup ds)] ds where
  go:=fun i H g hi=>by
    obtain ⟨a',us,e1,e2,e3⟩:=(g _ (List.mem_singleton.mpr rfl)).tup_of
    injection e1 with e1;subst e1
    have hl:=e3.length
    exact ⟨us,us[i],SqT.of e2,List.getElem?_eq_getElem (by omega)⟩
  yld:=fun i H x H' d g hd ⟨e,y⟩=>by
    subst e
    obtain ⟨a',us,e1,e2,e3⟩:=(g _ (List.mem_singleton.mpr rfl)).tup_of
    injection e1 with e1;subst e1
    obtain ⟨v,z1,z2⟩:=e3.get hd
    have:=y us (SqT.of e2)
    rw [z1] at this;cases this
    exact ⟨Same.refl _,z2⟩
  stop:=fun H g=>by
    obtain ⟨a',us,e1,e2,e3⟩:=(g _ (List.mem_singleton.mpr rfl)).tup_of
    injection e1 with e1;subst e1
    exact ⟨us,SqT.of e2,Nat.le_of_eq e3.length⟩
theorem i_seq (ha:PE X a (tD X.K fa)):PI X tg a (tI X.K fun δ=>(fa δ).bind itemsD):=by
  intro pins s σ H R I ⟨δ,ds,sr,e,q⟩
  try dsimp only at e
  try dsimp only at ef
  cases ex:fa δ with
  | none=>rw [ex] at e;cases e
  | some x =>
    rw [ex] at e
    have e':itemsD x=some ds:=e
    refine thn (ha pins s σ H (fun v H1=>Same H H1∧Rep X.K H1 x v) I ⟨δ,x,sr,ex,fun v H1 s1 rv=>⟨s1,rv⟩⟩) fun v s1 ⟨vx,H1,I1,r1,S,rv⟩=>?_
    have fp:∀ b∈[s1.heap.objs.size],FpOk X pins H1 b:=fun b hb=>by
      have e:b=s1.heap.objs.size:=by simpa using hb
      subst e
      exact I1.fpOk (Nat.le_refl _) (I1.hok.fresh (Nat.le_refl _))
    cases x with
    | lst xs =>
      cases e'
      obtain ⟨a,us,rfl,e2,e3⟩:=rv.lst_of
      cases r1
      obtain ⟨its,rv',p,hz⟩:=I1.list (SqL.of e2)
      refine wpAny_pyIter_list p.isList ?_
      exact ⟨s1.heap.objs.size,[s1.heap.objs.size],_,_,H1,rfl,I1.kept (t':=s1.toks) fun b o e=>Heap.get?_push_of_some _ e,turn_list a _,⟨_,Heap.get?_push_size _ rfl,rfl,rfl⟩,fp,q _ _ H1 S (grep_one rv) itd_lst (by rw [← e3.length];exact hz)⟩
    | fro xs =>
      cases e'
      obtain ⟨a,us,rfl,e2,e3⟩:=rv.fro_of
      cases r1
      obtain ⟨its,rv',p,hz⟩:=I1.list e2.sq
      refine wpAny_pyIter_list p.isList ?_
      exact ⟨s1.heap.objs.size,[s1.heap.objs.size],_,_,H1,rfl,I1.kept (t':=s1.toks) fun b o e=>Heap.get?_push_of_some _ e,turn_list a _,⟨_,Heap.get?_push_size _ rfl,rfl,rfl⟩,fp,q _ _ H1 S (grep_one rv) itd_fro (by rw [← e3.length];exact hz)⟩
    | tup xs =>
      cases e'
      obtain ⟨a,us,rfl,e2,e3⟩:=rv.tup_of
      cases r1
      obtain ⟨its,rv',p,hz⟩:=I1.tuple (SqT.of e2)
      refine wpAny_pyIter_tuple (show s1.heap.IsTuple a its.toArray from p) ?_
      exact ⟨s1.heap.objs.size,[s1.heap.objs.size],_,_,H1,rfl,I1.kept (t':=s1.toks) fun b o e=>Heap.get?_push_of_some _ e,turn_tuple a _,⟨_,Heap.get?_push_size _ rfl,rfl,rfl⟩,fp,q _ _ H1 S (grep_one rv) itd_tup (by rw [← e3.length];exact hz)⟩
    | _=>cases e'
theorem itd_range {K:PySem.W.Frag} {lo:Int} {n:Nat}:ItD K (Itr lo n) [] ((List.range n).map fun (k:Nat)=>D.int (lo+(k:Int))) where
  go:=fun i H _ hi=>by show i<n;simpa using hi
  yld:=fun i H x H' d _ hd ⟨e,y⟩=>by
    subst e y
    rw [List.getElem?_map] at hd
    have hi:i<n:=by
      by_cases h:i<n
      · exact h
      · rw [List.getElem?_eq_none (by simpa using h)] at hd;cases hd
    rw [List.getElem?_range hi] at hd
    cases hd
    exact ⟨Same.refl _,rep_int⟩
  stop:=fun H _=>by show n≤_;simp
def rangeD (lo:Int) (n:Nat):List D:=(List.range n).map fun (k:Nat)=>D.int (lo+(k:Int))
def range1D:List D→Option (List D)
  | [.int j]=>if fit j.natAbs=true then some (rangeD 0 j.toNat) else none
  | _=>none
def range2D:List D→Option (List D)
  | [.int i,.int j]=>if fit i.natAbs=true∧fit j.natAbs=true∧fit (j-i).toNat=true then some (rangeD i (j-i).toNat) else none
  | _=>none
theorem r_range1 {fs:DS→Option (List D)} (hg:Gl X "range") (hm:X.mg "range" = none) (ha:PA X [a] (tDA X.K fs)) (hs:starEach [a] X.env=[(false,eval a X.env)]:=by rfl):PI X tg (.Call (.Name "range" p) [a] [] pos) (tIR X.K fun δ=>(fs δ).bind range1D) :=
  (pi_range1 hg hm ha hs).imp fun σ H R ⟨δ,ds,sr,e,q⟩=>by
    try dsimp only at e
    try dsimp only at ef
    cases ex:fs δ with
    | none=>rw [ex] at e;cases e
    | some xs =>
      rw [ex] at e
      refine ⟨δ,xs,sr,ex,fun vs H1 s1 rs=>?_⟩
      have e':range1D xs=some ds:=e
      unfold range1D at e'
      split at e'
      · rename_i j
        obtain ⟨v,r,rfl,rv,rn⟩:=rs.cons_of
        cases rn.nil_of
        cases rv.int_of
        split at e'
        · rename_i hf
          cases e'
          have hj:j.natAbs≤1000:=of_decide_eq_true hf
          exact ⟨j,rfl,by omega,by omega,q _ H1 s1 itd_range (by unfold rangeD;rw [List.length_map,List.length_range];exact Nat.le_of_lt (small1000 (by omega)))⟩
        · cases e'
      · cases e'
theorem r_range2 {fs:DS→Option (List D)} (hg:Gl X "range") (hm:X.mg "range" = none) (ha:PA X [a,b] (tDA X.K fs)) (hs:starEach [a,b] X.env=[(false,eval a X.env),(false,eval b X.env)]:=by rfl) (hs2:starEach [b] X.env=[(false,eval b X.env)]:=by rfl):PI X tg (.Call (.Name "range" p) [a,b] [] pos) (tIR X.K fun δ=>(fs δ).bind range2D) :=
  (pi_range2 hg hm ha hs hs2).imp fun σ H R ⟨δ,ds,sr,e,q⟩=>by
    try dsimp only at e
    try dsimp only at ef
    cases ex:fs δ with
    | none=>rw [ex] at e;cases e
    | some xs =>
      rw [ex] at e
      refine ⟨δ,xs,sr,ex,fun vs H1 s1 rs=>?_⟩
      have e':range2D xs=some ds:=e
      unfold range2D at e'
      split at e'
      · rename_i i j
        obtain ⟨v,r,rfl,rv,rn⟩:=rs.cons_of
        obtain ⟨v2,r2,rfl,rv2,rn2⟩:=rn.cons_of
        cases rn2.nil_of
        cases rv.int_of
        cases rv2.int_of
        split at e'
        · rename_i hf
          cases e'
          have hi:i.natAbs≤1000:=of_decide_eq_true hf.1
          have hj:j.natAbs≤1000:=of_decide_eq_true hf.2.1
          have hn:(j-i).toNat≤1000:=of_decide_eq_true hf.2.2
          exact ⟨i,j,rfl,⟨by omega,by omega,by omega,by omega⟩,q _ H1 s1 itd_range (by unfold rangeD;rw [List.length_map,List.length_range];exact Nat.le_of_lt (small1000 hn))⟩
        · cases e'
      · cases e'
def TgD (X:Cx) (tg:Expr) (h:D→DS→Option DS) (ks:List Nat):Prop:=∃ g:TG,PG X tg g∧∀ (v:V) (d:D) (σ:St) (H:Hp) (δ δ':DS) (Q:St→Hp→Prop),Rep X.K H d v→SRep X.K H σ δ→h d δ=some δ' →
  (∀ σ',SRep X.K H σ' δ'→(∀ k,k∉ks→σ'[k]? = σ[k]?)→Q σ' H)→g v σ H Q
def bind1 (i:Nat):D→DS→Option DS:=fun d δ=>some (δ.set i (some d))
def bindP (i j:Nat):D→DS→Option DS:=fun d δ=>match d with
  | .tup [x,y]=>some ((δ.set i (some x)).set j (some y))
  | _=>none
theorem g_name {i:Nat} {x:Str} (hN:X.N.Nodup) (hi:X.N[i]? = some x) (hx:Loc X.env.scope x) (hf:X.fn x=true∨X.env.scope.names.lookup x=some .local:=by first | exact .inl rfl | exact .inr rfl | assumption):TgD X (.Name x pos) (bind1 i) [i] :=
  ⟨gName i,pg_name hN hi hx hf,fun v d σ H δ δ' Q rv sr e q=>by
    cases e
    exact q _ (sr.set rv i) fun k hk=>by rw [List.getElem?_set_ne (fun z=>hk (by simp [z]))]⟩
theorem g_pair {i j:Nat} {x y:Str} {px py:Pos} {k:Nat} (hc:X.calm=true) (hN:X.N.Nodup) (hi:X.N[i]? = some x) (hj:X.N[j]? = some y) (hx:Loc X.env.scope x) (hy:Loc X.env.scope y)
    (hf:X.fn x=true∨X.env.scope.names.lookup x=some .local:=by first | exact .inl rfl | exact .inr rfl | assumption) (hf':X.fn y=true∨X.env.scope.names.lookup y=some .local:=by first | exact .inl rfl | exact .inr rfl | assumption):TgD X (.Tuple [.Name x px,.Name y py] k pos) (bindP i j) [i,j] :=
  ⟨_,pg_tup (n:=2) hc (pgs_cons (pg_name hN hi hx hf) (pgs_cons (pg_name hN hj hy hf') pgs_nil)),fun v d σ H δ δ' Q rv sr e q=>by
    unfold bindP at e
    split at e
    · rename_i d1 d2
      cases e
      obtain ⟨a,us,rfl,e2,e3⟩:=rv.tup_of
      obtain ⟨v1,r1,rfl,rv1,rn1⟩:=e3.cons_of
      obtain ⟨v2,r2,rfl,rv2,rn2⟩:=rn1.cons_of
      cases rn2.nil_of
      exact ⟨a,[v1,v2],rfl,SqT.of e2,rfl,v1,[v2],rfl,v2,[],rfl,rfl,q _ ((sr.set rv1 i).set rv2 j) fun k hk=>by
        rw [List.getElem?_set_ne (fun z=>hk (by simp [z])),List.getElem?_set_ne (fun z=>hk (by simp [z]))]⟩
    · cases e⟩
end
end L2
set_option Elab.async false
set_option linter.all false
set_option maxRecDepth 100000
namespace L2
open PySem PySem.Spec PyProof.Rows
def clF (env:Env):List (Str × NameKind)→List (Str × Addr)→List (Str × Addr)
  | [],acc=>acc
  | (n,k)::r,acc=>clF env r (if k==.free then (n,(env.cells.lookup n).getD 0)::acc else acc)
def clOf (scope:Scope) (env:Env):List (Str × Addr):=clF env scope.names []
theorem closureFor_clOf {scope:Scope} {env:Env} (h:∀ n,(n,NameKind.free)∈scope.names→∃ c,env.cells.lookup n=some c):closureFor scope env=pure (clOf scope env):=by
  have key:∀ (l:List (Str × NameKind)) (acc:List (Str × Addr)),(∀ n,(n,NameKind.free)∈l→∃ c,env.cells.lookup n=some c) →
      (forIn l acc fun (x:Str × NameKind) (cs:List (Str × Addr))=>(if (x.2==NameKind.free)=true then do let a ← cellOf env x.1;pure (ForInStep.yield ((x.1,a)::cs)) else pure (ForInStep.yield cs):Sem _))=pure (clF env l acc):=by
    intro l
    induction l with
    | nil=>intro acc _;rfl
    | cons x r ih =>
      intro acc hl
      obtain ⟨n,k⟩:=x
      rw [List.forIn_cons]
      by_cases hk:(k==NameKind.free)=true
      · have hk':k = .free:=eq_of_beq hk
        subst hk'
        obtain ⟨c,hc⟩:=hl n List.mem_cons_self
        have e:cellOf env n=pure c:=by unfold cellOf;rw [hc]
        simp only [hk,if_true,e,pure_bind]
        rw [ih _ fun m hm=>hl m (List.mem_cons_of_mem _ hm)]
        simp [clF,hc]
      · have hk':(k==NameKind.free)=false:=by simpa using hk
        simp only [hk',Bool.false_eq_true,if_false,pure_bind]
        rw [ih _ fun m hm=>hl m (List.mem_cons_of_mem _ hm)]
        simp [clF,hk']
  unfold closureFor clOf
  have:=key scope.names [] h
  simp only [bind_pure_comp,bind_pure] at this ⊢
  exact this
theorem clF_lookup {env:Env}:∀ (l:List (Str × NameKind)) (acc:List (Str × Addr)) (x:Str) (c:Addr),(clF env l acc).lookup x=some c →
    (((x,NameKind.free)∈l)∧c=(env.cells.lookup x).getD 0)∨acc.lookup x=some c
  | [],acc,x,c,h=>.inr h
  | (n,k)::r,acc,x,c,h=>by
    unfold clF at h
    rcases clF_lookup r _ x c h with ⟨h1,h2⟩ | h1
    · exact .inl ⟨List.mem_cons_of_mem _ h1,h2⟩
    · by_cases hk:(k==NameKind.free)=true
      · rw [if_pos hk] at h1
        rw [List.lookup_cons] at h1
        by_cases hx:(x==n)=true
        · rw [hx] at h1
          have e:=eq_of_beq hx
          subst e
          have hk':k = .free:=eq_of_beq hk
          subst hk'
          cases h1
          exact .inl ⟨List.mem_cons_self,rfl⟩
        · have hx':(x==n)=false:=by simpa using hx
          rw [hx'] at h1
          exact .inr h1
      · rw [if_neg hk] at h1;exact .inr h1
theorem clF_has {env:Env}:∀ (l:List (Str × NameKind)) (acc:List (Str × Addr)) (x:Str),((x,NameKind.free)∈l ∨ ∃ c,acc.lookup x=some c)→∃ c,(clF env l acc).lookup x=some c
  | [],acc,x,h=>by
    rcases h with h | h
    · cases h
    · exact h
  | (n,k)::r,acc,x,h=>by
    unfold clF
    refine clF_has r _ x ?_
    rcases h with h | ⟨c,h⟩
    · rcases List.mem_cons.mp h with e | e
      · cases e
        refine .inr ⟨(env.cells.lookup n).getD 0,?_⟩
        rw [if_pos (show (NameKind.free==NameKind.free)=true from rfl),List.lookup_cons,beq_self_eq_true]
      · exact .inl e
    · by_cases hk:(k==NameKind.free)=true
      · rw [if_pos hk,List.lookup_cons]
        by_cases hx:(x==n)=true
        · rw [hx];exact .inr ⟨_,rfl⟩
        · have hx':(x==n)=false:=by simpa using hx
          rw [hx'];exact .inr ⟨c,h⟩
      · rw [if_neg hk];exact .inr ⟨c,h⟩
def cxComp (X:Cx) (scope:Scope) (N':List Str) (s:Shared) (H:Hp) (fp:List Addr) (C:Addr):Cx where
  prog:=X.prog
  w:=X.w
  K:=X.K
  mg:=X.mg
  base:=X.base
  A:=X.A
  N:=N'
  s₀:=s
  H₀:=H
  env:=compEnvC scope (clOf scope X.env) C X.env
  outer:=X.stack
  stack:=X.stack
  ex:=fp
  fn:=fun _=>false
  calm:=true
  pn:=[]
  xe:=fun _ _=>False
structure CompSc (X:Cx) (scope:Scope) (N':List Str) (inn:List (Option Nat)):Prop where
  kind:scope.kind = .function
  nocell:∀ y∈scope.names,y.2≠.cell
  locs:∀ y∈scope.names,y.2 = .local→scope.names.lookup y.1=some .local
  frees:∀ y,(y,NameKind.free)∈scope.names→scope.names.lookup y=some .free∧(X.env.kindOf y=some .cell∨X.env.kindOf y=some .free)
  nd:N'.Nodup
  len:inn.length=N'.length
  inn:∀ (i j:Nat),inn[i]? = some (some j)→∃ y,N'[i]? = some y∧X.N[j]? = some y∧(y,NameKind.free)∈scope.names
def innD (inn:List (Option Nat)) (δ:DS):DS:=inn.map fun o=>o.bind fun j=>(δ[j]?).join
def innS (inn:List (Option Nat)) (σ:St):St:=inn.map fun o=>o.bind fun j=>(σ[j]?).join
theorem relabel_look {env:Env}:∀ (l:List (Str × NameKind)) (x:Str),(l.map fun (n,k)=>if (k==NameKind.free&&env.scope.kind==.function&&env.kindOf n==some .cell) then (n,NameKind.cell) else (n,k)).lookup x =
    (l.lookup x).map fun k=>if (k==NameKind.free&&env.scope.kind==.function&&env.kindOf x==some .cell) then NameKind.cell else k
  | [],x=>rfl
  | (n,k)::r,x=>by
    have ih:=relabel_look (env:=env) r x
    show List.lookup x ((if (k==NameKind.free&&env.scope.kind==.function&&env.kindOf n==some .cell)=true then (n,NameKind.cell) else (n,k))::_)=_
    cases hx:x==n with
    | true =>
      have e:=eq_of_beq hx
      subst e
      by_cases hc:(k==NameKind.free&&env.scope.kind==.function&&env.kindOf x==some .cell)=true
      · rw [if_pos hc,List.lookup_cons,List.lookup_cons,hx]
        show some NameKind.cell=some (if (k==NameKind.free&&env.scope.kind==.function&&env.kindOf x==some .cell)=true then NameKind.cell else k)
        rw [if_pos hc]
      · rw [if_neg hc,List.lookup_cons,List.lookup_cons,hx]
        show some k=some (if (k==NameKind.free&&env.scope.kind==.function&&env.kindOf x==some .cell)=true then NameKind.cell else k)
        rw [if_neg hc]
    | false =>
      by_cases hc:(k==NameKind.free&&env.scope.kind==.function&&env.kindOf n==some .cell)=true
      · rw [if_pos hc,List.lookup_cons,List.lookup_cons,hx];exact ih
      · rw [if_neg hc,List.lookup_cons,List.lookup_cons,hx];exact ih
section
variable {X:Cx} {pins:List (Addr × Obj)} {σ:St} {H:Hp} {s:Shared}
theorem inv_comp {scope:Scope} {N':List Str} {inn:List (Option Nat)} {fp:List Addr} {h':Heap} {C:Addr} (S:CompSc X scope N' inn) (I:Inv X pins σ H s) (hc:X.calm=true) (hCs:s.heap.objs.size≤C)
    (hfp:∀ b∈fp,FpOk X pins H b) (hft:∀ b∈fp,b<s.heap.objs.size) (hns:h'.Ns C fun _=>none) (hk:∀ b o,s.heap.get? b=some o→h'.get? b=some o) (tk:Nat) :
    Inv (cxComp X scope N' s H fp C) [] (innS inn σ) H { s with heap:=h',toks:=tk }:=by
  have hfree:∀ y,(y,NameKind.free)∈scope.names→∃ c,X.env.cells.lookup y=some c:=fun y hy=>I.ok.has y (S.frees y hy).2
  have look:∀ x c,(clOf scope X.env).lookup x=some c→(x,NameKind.free)∈scope.names∧X.env.cells.lookup x=some c:=fun x c e=>by
    rcases clF_lookup scope.names [] x c e with ⟨h1,h2⟩ | h1
    · obtain ⟨c',hc'⟩:=hfree x h1
      rw [hc'] at h2
      exact ⟨h1,by rw [hc',h2];rfl⟩
    · cases h1
  have cellLt:∀ x c,X.env.cells.lookup x=some c→c<s.heap.objs.size:=fun x c e=>by
    obtain ⟨v,o,ho,_⟩:=I.cell x c e
    exact Heap.lt_size ho
  refine ⟨⟨I.ok.mod,?kind,I.ok.glob,I.ok.blt,hCs,?inj,?has,?cab,fun _=>I.ok.hd hc,I.ok.frames,.inl rfl,?exf,I.bs,?bsz,?noex,?exfs,I.stack,I.stkFree⟩,rfl,I.bare,Un.kept hk,⟨_,hns,?loc⟩,?cell,I.hok.fresh hCs,?freeC,?pin,I.hok.kept hk,?len⟩
  case kind=>exact S.kind
  case inj=>exact fun x y c h1 h2=>I.ok.inj x y c (look x c h1).2 (look y c h2).2
  case has =>
    intro x hx
    have hx':(relabel scope X.env).names.lookup x=some .cell∨(relabel scope X.env).names.lookup x=some .free:=hx
    have e:(relabel scope X.env).names.lookup x=(scope.names.lookup x).map fun k=>if (k==NameKind.free&&X.env.scope.kind==.function&&X.env.kindOf x==some .cell) then NameKind.cell else k:=relabel_look scope.names x
    rw [e] at hx'
    cases hl:scope.names.lookup x with
    | none=>rw [hl] at hx';rcases hx' with z | z<;>cases z
    | some k =>
      rw [hl] at hx'
      have hk:k = .free:=by
        by_cases hkf:k = .free
        · exact hkf
        · exfalso
          have hb:(k==NameKind.free)=false:=by simpa using hkf
          simp only [hb,Bool.false_and,if_false,Option.map_some] at hx'
          rcases hx' with z | z
          · have z':k = .cell:=by simpa using z
            exact S.nocell (x,k) (PySem.mem_of_lookup hl) z'
          · have z':k = .free:=by simpa using z
            exact hkf z'
      subst hk
      exact clF_has scope.names [] x (.inl (PySem.mem_of_lookup hl))
  case cab=>exact fun x c h1 _=>absurd h1 (by show ¬ (false=true);decide)
  case exf =>
    intro b hb
    exact ⟨Nat.ne_of_lt (Nat.lt_of_lt_of_le (hft b hb) hCs),fun x c e=>(hfp b hb).2.2.2.2.1 x c (look x c e).2⟩
  case bsz=>exact Nat.le_trans I.ok.bsz I.sz
  case noex =>
    intro b o e hb
    have hz:=(hfp b hb)
    rcases hz.2.2.2.1 with z | z
    · exact I.ok.noex b o e z
    · exact absurd (Nat.lt_of_lt_of_le (Heap.lt_size (I.ok.bs b o e).1) z) (Nat.lt_irrefl _)
  case exfs =>
    intro b hb hz
    rcases List.mem_cons.mp (I.stkSub b hz) with z | z
    · exact (hfp b hb).2.1 z
    · exact (hfp b hb).2.2.1 z
  case loc =>
    intro i x v h1 h2 h3
    unfold innS at h2
    rw [List.getElem?_map] at h2
    cases ho:inn[i]? with
    | none=>rw [ho] at h2;cases h2
    | some o =>
      rw [ho] at h2
      cases o with
      | none=>cases h2
      | some j =>
        obtain ⟨y,e1,e2,e3⟩:=S.inn i j ho
        have e4:N'[i]? = some x:=h1
        have e4':y=x:=by rw [e1] at e4;exact Option.some.inj e4
        subst e4'
        have h2':(σ[j]?).join=some v:=by simpa using h2
        have h2'':σ[j]? = some (some v):=by
          cases q:σ[j]? with
          | none=>rw [q] at h2';cases h2'
          | some o=>rw [q] at h2';exact congrArg some h2'
        have vis:Vis X.env.scope y:=.inr (S.frees y e3).2
        obtain ⟨m,hn,hl⟩:=I.loc
        obtain ⟨u,r,l⟩:=hl j y v e2 h2'' vis
        refine ⟨u,r,.inr ⟨?_,?_⟩⟩
        · show (relabel scope X.env).names.lookup y=some .cell∨(relabel scope X.env).names.lookup y=some .free
          rw [show (relabel scope X.env).names.lookup y=(scope.names.lookup y).map fun k=>if (k==NameKind.free&&X.env.scope.kind==.function&&X.env.kindOf y==some .cell) then NameKind.cell else k from relabel_look scope.names y,(S.frees y e3).1]
          simp only [Option.map_some]
          split
          · exact .inl rfl
          · exact .inr rfl
        · rcases l with ⟨k,_⟩ | ⟨_,c,hcl,hcell⟩
          · rcases (S.frees y e3).2 with z | z<;>rw [k] at z<;>cases z
          · obtain ⟨c',hc'⟩:=clF_has (env:=X.env) scope.names [] y (.inl e3)
            have e5:=(look y c' hc').2
            rw [hcl] at e5;cases e5
            exact ⟨c,hc',let ⟨o,ho,hd⟩:=hcell;⟨o,hk _ _ ho,hd⟩⟩
  case cell =>
    intro x c e
    obtain ⟨v,o,ho,hd⟩:=I.cell x c (look x c e).2
    exact ⟨v,o,hk _ _ ho,hd⟩
  case freeC=>exact fun x c e=>I.freeC x c (look x c e).2
  case pin=>exact fun p hp=>absurd (show p∈([]:List (Addr × Obj)) from hp) (by simp)
  case len =>
    show (innS inn σ).length=N'.length
    unfold innS
    rw [List.length_map,S.len]
theorem srep_inn {K:PySem.W.Frag} {H:Hp} {σ:St} {δ:DS} (inn:List (Option Nat)) (h:SRep K H σ δ):SRep K H (innS inn σ) (innD inn δ):=by
  refine ⟨by unfold innS innD;rw [List.length_map,List.length_map],h.2.1,fun i d e=>?_⟩
  unfold innD at e
  unfold innS
  rw [List.getElem?_map] at e ⊢
  cases ho:inn[i]? with
  | none=>rw [ho] at e;cases e
  | some o =>
    rw [ho] at e
    cases o with
    | none=>cases e
    | some j =>
      have e':(δ[j]?).join=some d:=by simpa using e
      obtain ⟨v,h1,h2⟩:=h.get e'
      exact ⟨v,by simp [h1],h2⟩
end
theorem compLoop_own {prog:Program} {w:World} {A:Around} {R:Result→Shared→Prop} {s:Shared} {elt target iter:Expr} {ifs:List Expr} {scope:Scope} {pos:Pos} {it acc:Value} {env:Env} (I:Nat→Shared→Prop)
    (turn:∀ n s,I n s→wpAny (model prog w) A (pyNext it) (fun r s₁=>match r with
      | none=>R (.ok .next) s₁
      | some v=>wpAny (model prog w) A (letOwnedTupleGo target it v) (fun _ s₁'=>wpAny (model prog w) A (assign target env v) (fun _ s₂ =>
          wpAny (model prog w) A (forIn ifs true fun c r=>if r=true then do let ok ← isTrue c env (eval c env);pure (ForInStep.yield ok) else pure (ForInStep.yield r)) (fun ok s₃ =>
            if ok=true then wpAny (model prog w) A (eval elt env) (fun x s₄ =>
              wpAny (model prog w) A (call (.builtin "list.append") [acc,x]) (fun _ s₅=>∃ m,m<n∧I m s₅) (fun _ _=>False) s₄) (fun _ _=>False) s₃
            else ∃ m,m<n∧I m s₃) (fun _ _=>False) s₂) (fun _ _=>False) s₁') (fun _ _=>False) s₁) (fun _ _=>False) s)
    (n:Nat) (h:I n s) :
    codeAny (model prog w) A (.compLoop (.ListComp elt [⟨target,iter,ifs,0⟩] scope pos) 0 it acc env) R s:=by
  refine codeAny_loop rfl I (fun n s hI=>?_) n h
  show wpAny _ A ((compTurn (.ListComp elt [⟨target,iter,ifs,0⟩] scope pos) 0 it acc env).onRaise (fun x=>do noteFrame x env;theTreesLotGoes x)) _ _ s
  refine wpAny_noted ?_
  rw [compTurn_list]
  refine wpAny_bind (wpAny_standAt (wpAny_bind (wpAny_mono (turn n s hI) (fun r s₁ h₁=>?_) fun _ _ h'=>h'.elim)))
  cases r with
  | none=>exact wpAny_pure h₁
  | some v =>
    refine wpAny_bind (wpAny_mono h₁ (fun _ s₁' h₁'=>?_) fun _ _ h'=>h'.elim)
    refine wpAny_bind (wpAny_mono h₁' (fun _ s₂ h₂=>wpAny_bind (wpAny_mono h₂ (fun ok s₃ h₃=>?_) fun _ _ h'=>h'.elim)) fun _ _ h'=>h'.elim)
    cases ok with
    | false=>exact wpAny_pure ⟨rfl,h₃⟩
    | true =>
      exact wpAny_bind (wpAny_bind (wpAny_mono h₃ (fun x s₄ h₄=>wpAny_bind (wpAny_mono h₄ (fun _ s₅ h₅=>wpAny_pure (wpAny_pure ⟨rfl,h₅⟩)) fun _ _ h'=>h'.elim)) fun _ _ h'=>h'.elim))
def PIfs (X:Cx) (ifs:List Expr) (f:DS→Option Bool):Prop :=
  ∀ (pins:List (Addr × Obj)) (s:Shared) (σ:St) (H:Hp) (Q:Bool→Hp→Prop),Inv X pins σ H s→tT X.K f σ H Q →
    wpAny (model X.prog X.w) X.A (forIn ifs true fun c r=>if r=true then do let ok ← isTrue c X.env (eval c X.env);pure (ForInStep.yield ok) else pure (ForInStep.yield r)) (TP X pins σ Q) X.xe s
theorem ifs_nil {X:Cx}:PIfs X [] (fun _=>some true):=fun pins s σ H Q I ⟨δ,b,sr,e,q⟩=>by
  cases e
  exact wpAny_tests_nil ⟨H,I,q H (Same.refl H)⟩
theorem ifs_one {X:Cx} {c:Expr} {f:DS→Option Bool} (h:PT X c (tT X.K f)):PIfs X [c] f:=fun pins s σ H Q I q=>wpAny_tests_one (h pins s σ H Q I q)
def compD (h:D→DS→Option DS) (fc:DS→Option Bool) (fe:DS→Option D) (δ:DS):List D→Option (List D)
  | []=>some []
  | d::ds=>(h d δ).bind fun δ1=>(fc δ1).bind fun c=>if c=true then (fe δ1).bind fun x=>(compD h fc fe δ1 ds).map fun xs=>x::xs else compD h fc fe δ1 ds
section
variable {X:Cx} {tg iter elt:Expr} {ifs:List Expr} {scope:Scope} {pos:Pos} {N':List Str} {inn:List (Option Nat)} {fi:DS→Option (List D)} {h:D→DS→Option DS} {fc:DS→Option Bool} {fe:DS→Option D} {ks:List Nat}
theorem HOk.adopt {P:Program} {w:World} {H:Hp} {h:Heap} {a:Addr} {o:HO} (x:HOk P w H h) (hn:H a=none) (new:ObjOk P w (upd H a o) h a o):HOk P w (upd H a o) h:=fun b u e=>by
  by_cases hb:b=a
  · subst hb
    rw [upd_same] at e;cases e
    exact new
  · rw [upd_ne hb] at e
    exact (x b u e).stay (fun _ _ _ q=>q) (fun c q=>by rw [upd_ne (ne_of_none q hn)];exact q) (fun c xs q=>by rw [upd_ne (ne_of_none q hn)];exact q) fun c ob uu q=>by rw [upd_ne (ne_of_none q hn)];exact q
theorem Un.adopt {fs ex:List Addr} {H H1:Hp} {h h1:Heap} {a:Addr} {o:HO} (u:Un fs ex H H1 h h1) (hp:h.objs.size≤a) (hn:H a=none):Un fs ex H (upd H1 a o) h h1 where
  keep:=u.keep
  slot:=u.slot
  free:=fun b ob q n hx=>by rw [upd_ne (Nat.ne_of_lt (Nat.lt_of_lt_of_le (Heap.lt_size q) hp))];exact u.free b ob q n hx
  there:=u.there
  tups:=fun b xs q=>by rw [upd_ne (ne_of_none q hn)];exact u.tups b xs q
  frzs:=fun b ob xs q=>by rw [upd_ne (ne_of_none q hn)];exact u.frzs b ob xs q
  tbls:=fun b ps q=>by rw [upd_ne (ne_of_none q hn)];exact u.tbls b ps q
theorem comp_block (hc:X.calm=true) (S:CompSc X scope N' inn)
    (hin:∀ (s:Shared) (H:Hp) (fp:List Addr) (C:Addr),TgD (cxComp X scope N' s H fp C) tg h ks∧PIfs (cxComp X scope N' s H fp C) ifs fc∧PE (cxComp X scope N' s H fp C) elt (tD X.K fe))
    {pins:List (Addr × Obj)} {σ:St} {H₀:Hp} {δ:DS} {ds ys:List D} {s₂:Shared} {it:Addr} {fp:List Addr} {tn:Nat→Heap→Prop} {J:It} {gh:List (V × D)} {E:Value→Shared→Prop} {RR:Value→Addr→Result→Shared→Prop}
    (I:Inv X pins σ H₀ s₂) (T:Turn X.prog X.w X.K tg J fp it tn) (st:tn 0 s₂.heap) (hfp:∀ b∈fp,FpOk X pins H₀ b) (sr:SRep X.K H₀ σ δ) (hg:GRep X.K H₀ gh) (hJ:ItD X.K J gh ds) (hlen:ds.length≤sizeLine) (hys:compD h fc fe (innD inn δ) ds=some ys)
    (fin:∀ (a C:Addr) (xs:List V) (H':Hp) (s':Shared) (m:Str→Option Value),H₀ a=none→Same H₀ H'→H' a=some (.lst xs)→Reps X.K H' ys xs→Inv X pins σ H' s'→s'.heap.Ns C m→FpOk X pins H' C→RR (.ref a) C (.ok .next) s') :
    wpAny (model X.prog X.w) X.A (newList []) (fun acc s₃=>wpAny (model X.prog X.w) X.A (newFunctionEnv scope X.env.globals (clOf scope X.env) [] X.env.qual none .none (some X.env)) (fun cenv s₄ =>
      codeAny (model X.prog X.w) X.A (.compStart (.ListComp elt [⟨tg,iter,ifs,0⟩] scope pos) 0 (.ref it) acc { cenv with scope:=relabel scope X.env }) (RR acc cenv.locals) s₄) E s₃) E s₂:=by
  have fpLt:∀ b∈fp,b<s₂.heap.objs.size:=fun b hb=>by
    obtain ⟨o,e,_⟩:=T.obj 0 _ st b hb
    exact Heap.lt_size e
  refine wpAny_newObj_type ?_
  have hD:H₀ s₂.heap.objs.size=none:=I.hok.fresh (Nat.le_refl _)
  refine wpAny_newFunctionEnv S.nocell (by intro y hy;simp at hy) (fun h₁ hns₁ hsb₁=>?_) S.kind
  dsimp only at hns₁ hsb₁ ⊢
  generalize hH3:s₂.heap.push { cls:=.type "list", dict:=none,data:=.seq ([]:List Value).toArray }=H3 at hns₁ hsb₁ ⊢
  have hCe:H3.objs.size=s₂.heap.objs.size+1:=by rw [← hH3,Heap.size_push]
  have hDC:s₂.heap.objs.size≠H3.objs.size:=by rw [hCe];exact Nat.ne_of_lt (Nat.lt_succ_self _)
  have hCle:s₂.heap.objs.size≤H3.objs.size:=by rw [hCe];exact Nat.le_succ _
  have old:∀ b o,s₂.heap.get? b=some o→h₁.get? b=some o:=fun b o e =>
    hsb₁.extBut b o (by rw [hCe];exact Nat.ne_of_lt (Nat.lt_succ_of_lt (Heap.lt_size e))) (Heap.get?_push_of_some _ (hH3 ▸ Heap.get?_push_of_some _ e))
  have hacc:h₁.PlainList s₂.heap.objs.size #[]:=⟨_,hsb₁.extBut _ _ hDC (Heap.get?_push_of_some _ (hH3 ▸ Heap.get?_push_size _ rfl))⟩
  have st4:tn 0 h₁:=T.keep _ _ _ st fun b _ o e=>old b o e
  have I4:=inv_comp S I hc hCle hfp fpLt (by simpa using hns₁) old (s₂.toks+([]:List (Str × Value)).length)
  have sr4:SRep X.K H₀ (innS inn σ) (innD inn δ):=srep_inn inn sr
  obtain ⟨⟨g,hg1,hg2⟩,hif,hel⟩:=hin s₂ H₀ fp H3.objs.size
  generalize hX':cxComp X scope N' s₂ H₀ fp H3.objs.size=X' at I4 hg1 hg2 hif hel
  have e1:X'.prog=X.prog:=by rw [← hX'];rfl
  have e2:X'.w=X.w:=by rw [← hX'];rfl
  have e3:X'.A=X.A:=by rw [← hX'];rfl
  have e4:X'.K=X.K:=by rw [← hX'];rfl
  have e5:X'.calm=true:=by rw [← hX'];rfl
  have e6:X'.env=compEnvC scope (clOf scope X.env) H3.objs.size X.env:=by rw [← hX'];rfl
  have e7:X'.xe=fun _ _=>False:=by rw [← hX'];rfl
  have e8:X'.s₀=s₂:=by rw [← hX'];rfl
  have e9:X'.fs=frs X.stack:=by rw [← hX'];rfl
  have e10:X'.pn=[]:=by rw [← hX'];rfl
  have e11:X'.env.locals=H3.objs.size:=by rw [e6];rfl
  have fpx:∀ b∈fp,b∈X'.ex:=fun b hb=>by rw [← hX'];exact hb
  have accOk:∀ {σ':St} {H':Hp} {s':Shared},Inv X' [] σ' H' s'→s₂.heap.objs.size≠X'.env.locals∧s₂.heap.objs.size∉X'.fs∧(s₂.heap.objs.size∈X'.ex∨X'.s₀.heap.objs.size≤s₂.heap.objs.size)∧(∀ x c,X'.env.cells.lookup x=some c→c≠s₂.heap.objs.size):=fun {σ' H' s'} I'=>by
    refine ⟨by rw [e11];exact hDC,?_,.inr (by rw [e8];exact Nat.le_refl _),fun x c e z=>?_⟩
    · rw [e9]
      intro hb
      rcases List.mem_cons.mp (I.stkSub _ hb) with z | z
      · exact absurd I.lt (by rw [← z];exact Nat.lt_irrefl _)
      · exact I.nofs (Nat.le_refl _) z
    · rw [e6] at e
      rcases clF_lookup scope.names [] x c e with ⟨h1,h2⟩ | h1
      · obtain ⟨c',hc'⟩:=I.ok.has x (S.frees x h1).2
        rw [hc'] at h2
        have h2':c=c':=h2
        subst h2'
        obtain ⟨v,o,ho,_⟩:=I.cell x c hc'
        exact absurd (Heap.lt_size ho) (by rw [z];exact Nat.lt_irrefl _)
      · cases h1
  have loop:∀ s₄:Shared,s₄={ s₂ with heap:=h₁,toks:=s₂.toks+([]:List (Str × Value)).length } →
      codeAny (model X.prog X.w) X.A (.compLoop (.ListComp elt [⟨tg,iter,ifs,0⟩] scope pos) 0 (.ref it) (.ref s₂.heap.objs.size) (compEnvC scope (clOf scope X.env) H3.objs.size X.env)) (RR (.ref s₂.heap.objs.size) H3.objs.size) s₄:=by
    rintro s₄ rfl
    have noPin:∀ p∈X'.pn++([]:List (Addr × Obj)),False:=fun p hp=>by rw [e10] at hp;cases hp
    have stat:∀ {σ':St} {H':Hp} {s':Shared},Inv X' [] σ' H' s'→(∀ b∈fp,H' b=none)→∀ b∈fp,FpOk X' [] H' b:=fun {σ' H' s'} I' hn b hb =>
      ⟨hn b hb,(I'.ok.exf b (fpx b hb)).1,I'.ok.exfs b (fpx b hb),.inl (fpx b hb),fun x c e=>(I'.ok.exf b (fpx b hb)).2 x c e,fun p hp=>(noPin p hp).elim⟩
    refine compLoop_own (fun n s'=>∃ (i:Nat) (σ':St) (H':Hp) (δ':DS) (rest:List D) (us:List V) (its:List Value),Inv X' [] σ' H' s'∧tn i s'.heap∧(∀ b∈fp,H' b=none)∧H' s₂.heap.objs.size=none∧s'.heap.PlainList s₂.heap.objs.size its.toArray∧Vals us its ∧
      n=ds.length+1-i∧i≤ds.length∧ds.drop i=rest∧SRep X.K H' σ' δ' ∧
      GRep X.K H' gh∧Same H₀ H'∧us.length≤i∧∃ ws vs',compD h fc fe δ' rest=some ws∧ys=vs'++ws∧Reps X.K H' vs' us) ?_ (ds.length+1)
      ⟨0,innS inn σ,H₀,innD inn δ,ds,[],[],I4,st4,fun b hb=>(hfp b hb).1,hD,hacc,.nil,rfl,Nat.zero_le _,rfl,sr4,hg,Same.refl _,Nat.zero_le _,ys,[],hys,rfl,reps_nil⟩
    rintro n s' ⟨i,σ',H',δ',rest,us,its,I',st',fr',hDn,hpl,hvs,hn,hi,hrest,sr',hg',same',hul,ws,vs',hws,hyv,hrv⟩
    have hDf:s₂.heap.objs.size∉fp:=fun z=>Nat.lt_irrefl _ (fpLt _ z)
    cases rest with
    | nil =>
      have hil:i=ds.length:=by
        have:=congrArg List.length hrest
        rw [List.length_drop,List.length_nil] at this;omega
      subst hil
      obtain ⟨na,hna⟩:=id hpl
      have I'p:Inv X' ([(s₂.heap.objs.size,_)]) σ' H' s':=I'.pins_of fun p hp=>by
        have e:p=(s₂.heap.objs.size,_):=List.mem_singleton.mp hp
        subst e
        exact ⟨hna,hDn,(accOk I').1,(accOk I').2.1,fun v z=>nomatch z⟩
      have fpo:∀ b∈fp,FpOk X' [(s₂.heap.objs.size,{ cls:=.type "list", data:=.seq its.toArray na })] H' b:=fun b hb=>by
        obtain ⟨f0,f1,f2,f3,f4,f5⟩:=stat I' fr' b hb
        refine ⟨f0,f1,f2,f3,f4,fun p hp=>?_⟩
        rcases List.mem_append.mp hp with z | z
        · exact f5 p (List.mem_append_left _ z)
        · have e:p=_:=List.mem_singleton.mp z
          subst e
          exact Nat.ne_of_gt (fpLt b hb)
      have:=T.done X' e1 e2 e4 e5 _ _ s' σ' H' (fun _ _=>False) I'p fpo st' (hJ.stop H' hg')
      rw [e3] at this
      refine thn this fun r s1 ⟨hr,I1⟩=>?_
      subst hr
      cases hws
      rw [List.append_nil] at hyv
      subst hyv
      have hpin:=(I1.pin _ (List.mem_append_right _ (List.mem_singleton.mpr rfl))).1
      have hb:=I1.base
      have hsz:us.length≤sizeLine:=by omega
      have I6:Inv X pins σ (upd H' s₂.heap.objs.size (.lst us)) s1:=by
        refine I.call' (ch:=fp) ?_ (Un.adopt ?_ (Nat.le_refl _) hD) (HOk.adopt ?_ hDn ⟨hsz,its,na,hvs,hpin⟩) I1.bare ?_
        · have:=I1.os;rw [e8] at this;exact this
        · rw [← hX'] at hb;exact hb
        · have:=I1.hok;rw [e1,e2] at this;exact this
        · intro b hb
          obtain ⟨f0,f1,f2,f3,f4,f5⟩:=hfp b hb
          exact ⟨f3,f1,f4,f5⟩
      obtain ⟨m,hm,_⟩:=I1.loc
      have hfC:=I1.free
      rw [e11] at hm hfC
      have SD:Same H' (upd H' s₂.heap.objs.size (.lst us)):=same_new hDn _
      refine fin _ _ us _ s1 m hD (same'.trans SD) upd_same (hrv.mono SD) I6 hm ?_
      exact I.fpOk hCle (by rw [upd_ne (Ne.symm hDC)];exact hfC)
    | cons d rest =>
      have hlt:i<ds.length:=by
        have:=congrArg List.length hrest
        rw [List.length_drop,List.length_cons] at this;omega
      have hd:ds[i]? = some d∧ds.drop (i+1)=rest:=by
        rw [List.drop_eq_getElem_cons hlt] at hrest
        injection hrest with z1 z2
        exact ⟨by rw [List.getElem?_eq_getElem hlt,z1],z2⟩
      obtain ⟨na,hna⟩:=id hpl
      have I'p:Inv X' ([(s₂.heap.objs.size,{ cls:=.type "list", data:=.seq its.toArray na })]) σ' H' s':=I'.pins_of fun p hp=>by
        have e:p=(s₂.heap.objs.size,_):=List.mem_singleton.mp hp
        subst e
        exact ⟨hna,hDn,(accOk I').1,(accOk I').2.1,fun v z=>nomatch z⟩
      have stat2:∀ {σ':St} {H':Hp} {s':Shared},Inv X' [] σ' H' s'→(∀ b∈fp,H' b=none)→∀ b∈fp,FpOk X' [(s₂.heap.objs.size,{ cls:=.type "list", data:=.seq its.toArray na })] H' b:=fun {σ' H' s'} I' hn b hb=>by
        obtain ⟨f0,f1,f2,f3,f4,f5⟩:=stat I' hn b hb
        refine ⟨f0,f1,f2,f3,f4,fun p hp=>?_⟩
        rcases List.mem_append.mp hp with z | z
        · exact f5 p (List.mem_append_left _ z)
        · have e:p=_:=List.mem_singleton.mp z
          subst e
          exact Nat.ne_of_gt (fpLt b hb)
      have unp:∀ {pl:List (Addr × Obj)} {σ':St} {H':Hp} {s':Shared},Inv X' pl σ' H' s'→Inv X' [] σ' H' s':=fun I'=>I'.pins_of fun p hp=>nomatch hp
      have:=T.item X' e1 e2 e4 e5 i _ s' σ' H' (fun _ _=>False) I'p (stat2 I' fr') st' (hJ.go i H' hg' hlt)
      rw [e3] at this
      refine thn this fun r s1 ⟨u,hr,h1⟩=>?_
      subst hr
      refine thn h1 fun _ s5 ⟨x,H5,I5,r5,y5,st5,fr5⟩=>?_
      obtain ⟨S5,rx⟩:=hJ.yld i H' x H5 d hg' hd.1 y5
      unfold compD at hws
      cases eb:h d δ' with
      | none=>rw [eb] at hws;cases hws
      | some δ1 =>
        rw [eb] at hws
        cases ec:fc δ1 with
        | none=>simp [ec] at hws
        | some c =>
          have I5':=I5.pinned (stat2 (unp I5) fr5) (T.obj _ _ st5)
          have W:=hg1 _ s5 σ' H5 x u (fun σ6 H6=>H6=H5∧SRep X.K H6 σ6 δ1) I5' r5 (by
            refine hg2 x d σ' H5 δ' δ1 _ ?_ ?_ eb fun σ6 sr6 _=>⟨rfl,by rw [e4] at sr6;exact sr6⟩
            · rw [e4];exact rx
            · rw [e4];exact sr'.mono S5)
          rw [e1,e2,e3,e6,e7] at W
          refine thn W fun _ s6 ⟨σ6,H6,I6,hH6,sr6⟩=>?_
          subst hH6
          have W2:=hif _ s6 σ6 H6 (fun b H7=>b=c∧Same H6 H7) I6 (by rw [e4];exact ⟨δ1,c,sr6,ec,fun H7 s7=>⟨rfl,s7⟩⟩)
          rw [e1,e2,e3,e6,e7] at W2
          refine thn W2 fun ok s7 ⟨H7,I7,hok,S7⟩=>?_
          subst hok
          have again:∀ {σ8:St} {H8:Hp} {s8:Shared},Inv X' ([(s₂.heap.objs.size,{ cls:=.type "list", data:=.seq its.toArray na })]++pinsAt fp s5.heap) σ8 H8 s8→Inv X' [] σ8 H8 s8∧tn (i+1) s8.heap∧(∀ b∈fp,H8 b=none)∧s8.heap.get? s₂.heap.objs.size=some { cls:=.type "list", data:=.seq its.toArray na }∧H8 s₂.heap.objs.size=none:=fun {σ8 H8 s8} I8 =>
            ⟨unp I8,T.keep _ _ _ st5 fun b hb o e=>(I8.pin (b,o) (List.mem_append_right _ (List.mem_append_right _ (mem_pinsAt hb e)))).1,fun b hb=>by
              obtain ⟨o,e,_⟩:=T.obj _ _ st5 b hb
              exact (I8.pin (b,o) (List.mem_append_right _ (List.mem_append_right _ (mem_pinsAt hb e)))).2.1,
              (I8.pin _ (List.mem_append_right _ (List.mem_append_left _ (List.mem_singleton.mpr rfl)))).1,(I8.pin _ (List.mem_append_right _ (List.mem_append_left _ (List.mem_singleton.mpr rfl)))).2.1⟩
          have S57:Same H' H7:=S5.trans S7
          cases ok with
          | false =>
            rw [if_neg (by decide)]
            have hws':compD h fc fe δ1 rest=some ws:=by simpa [ec] using hws
            obtain ⟨I8,st8,fr8,ha8,hn8⟩:=again I7
            exact ⟨ds.length+1-(i+1),by omega,i+1,σ6,H7,δ1,rest,us,its,I8,st8,fr8,hn8,⟨na,ha8⟩,hvs,rfl,hlt,hd.2,sr6.mono S7,hg'.mono S57,same'.trans S57,by omega,ws,vs',hws',hyv,hrv.mono S57⟩
          | true =>
            rw [if_pos rfl]
            cases ee:fe δ1 with
            | none=>simp [ec,ee] at hws
            | some z =>
              cases ew:compD h fc fe δ1 rest with
              | none=>simp [ec,ee,ew] at hws
              | some ws' =>
                have hws':z::ws' = ws:=by simpa [ec,ee,ew] using hws
                subst hws'
                have W3:=hel _ s7 σ6 H7 (fun v H8=>Same H7 H8∧Rep X.K H8 z v) I7 ⟨δ1,z,sr6.mono S7,ee,fun v H8 s8 rv=>⟨s8,rv⟩⟩
                rw [e1,e2,e3,e6,e7] at W3
                refine thn W3 fun v8 s8 ⟨vz,H8,I8,rz,S8,rvz⟩=>?_
                have S08:Same H' H8:=S57.trans S8
                obtain ⟨I9,st9,fr9,ha9,hn9⟩:=again I8
                have hil:its.length=us.length:=hvs.length.symm
                refine wpAny_list_append_plain (hsz:=by rw [List.size_toArray];omega) ⟨na,ha9⟩ fun h₅ hl₅ hs₅=>?_
                have a9:=accOk I9
                have I10:Inv X' [] σ6 H8 { s8 with heap:=h₅ }:=I9.turned (t':=s8.toks) (fun b o hb e=>hs₅.extBut b o hb e) hn9 a9.1 a9.2.2.1 a9.2.2.2 fun p hp=>(noPin p hp).elim
                refine ⟨ds.length+1-(i+1),by omega,i+1,σ6,H8,δ1,rest,us++[vz],its++[v8],I10,T.keep _ _ _ st9 fun b hb o e=>hs₅.extBut b o (fun z=>hDf (z ▸ hb)) e,fr9,hn9,by simpa using hl₅,hvs.append (.cons rz .nil),rfl,hlt,hd.2,sr6.mono (S7.trans S8),hg'.mono S08,same'.trans S08,?_,ws',vs'++[z],ew,?_,(hrv.mono S08).append (reps_cons rvz reps_nil)⟩
                · rw [List.length_append,List.length_singleton];omega
                · rw [hyv,List.append_assoc];rfl
  exact codeAny_compStart_list (loop _ rfl) (T.self _ 0 _ _ _ st4 (loop _ rfl))
theorem f_comp (hc:X.calm=true) (S:CompSc X scope N' inn) (hi:PI X tg iter (tI X.K fi))
    (hin:∀ (s:Shared) (H:Hp) (fp:List Addr) (C:Addr),TgD (cxComp X scope N' s H fp C) tg h ks∧PIfs (cxComp X scope N' s H fp C) ifs fc∧PE (cxComp X scope N' s H fp C) elt (tD X.K fe))
    (hs:∀ x,foldedSetIterable iter X.env x=pure x:=by intro _;rfl) :
    PE X (.ListComp elt [⟨tg,iter,ifs,0⟩] scope pos) (tF X.K fun δ=>(fi δ).bind fun ds=>compD h fc fe (innD inn δ) ds):=by
  intro pins s σ H Q I ⟨δ,ys,sr,e,q⟩
  try dsimp only at e
  try dsimp only at ef
  cases ei:fi δ with
  | none=>rw [ei] at e;cases e
  | some ds =>
    rw [ei] at e
    have hys:compD h fc fe (innD inn δ) ds=some ys:=e
    have hcl:closureFor scope X.env=pure (clOf scope X.env):=closureFor_clOf fun y hy=>I.ok.has y (S.frees y hy).2
    rw [eval_ListComp]
    refine wpAny_comprehension_free (use:=none) rfl hs hcl S.kind S.locs (thn (hi pins s σ H (fun J H'=>∃ gh,Same H H'∧GRep X.K H' gh∧ItD X.K J gh ds∧ds.length≤sizeLine) I ⟨δ,ds,sr,ei,fun J gh H' s' g i l=>⟨gh,s',g,i,l⟩⟩) fun v s1 h1=>thn h1 fun itv s2 h2=>?_)
    obtain ⟨it,fp,tn,J,H2,rfl,I2,T,st,hfp,gh,S2,hg,hJ,hl⟩:=h2
    refine comp_block (RR:=fun acc C=>compPost (model X.prog X.w) X.A X.xe none (EP X pins σ Q) acc C) hc S hin I2 T st hfp (sr.mono S2) hg hJ hl hys ?_
    intro a C xs H' s' m ha S' ha' hr I' hm fC
    refine ⟨m,hm,fun h'' hs''=>?_⟩
    obtain ⟨f0,f1,f2,f3,f4,f5⟩:=fC
    exact ⟨.ref a,H',I'.turned (t':=s'.toks) (fun b o hb e=>hs''.extBut b o hb e) f0 f1 f3 f4 f5,rfl,q a xs H' (S2.free ha) (S2.trans S') ha' hr⟩
theorem d_comp (hc:X.calm=true) (S:CompSc X scope N' inn) (hi:PI X tg iter (tI X.K fi))
    (hin:∀ (s:Shared) (H:Hp) (fp:List Addr) (C:Addr),TgD (cxComp X scope N' s H fp C) tg h ks∧PIfs (cxComp X scope N' s H fp C) ifs fc∧PE (cxComp X scope N' s H fp C) elt (tD X.K fe))
    (hs:∀ x,foldedSetIterable iter X.env x=pure x:=by intro _;rfl) :
    PE X (.ListComp elt [⟨tg,iter,ifs,0⟩] scope pos) (tD X.K fun δ=>((fi δ).bind fun ds=>compD h fc fe (innD inn δ) ds).map D.lst):=d_of_f (f_comp hc S hi hin hs)
end
end L2
set_option Elab.async false
set_option linter.all false
set_option maxRecDepth 100000
namespace L2
open PySem PySem.Spec PyProof.Rows
inductive DF where
  | nx (δ:DS) | rt (d:D) | bk (δ:DS) | ct (δ:DS)
structure SOk (K:PySem.W.Frag) (H₀:Hp) (gh:List (V × D)) (ow:List Nat) (H:Hp) (σ:St) (δ:DS):Prop where
  same:Same H₀ H
  rep:SRep K H σ δ
  gr:GRep K H gh
  own:∀ i∈ow,∀ a,σ[i]? = some (some (.ref a))→H₀ a=none
def DF.ok (K:PySem.W.Frag) (H₀:Hp) (gh:List (V × D)) (ow owL:List Nat) (E:Ends):DF→Prop
  | .nx δ=>∀ σ H,SOk K H₀ gh ow H σ δ→E.nx σ H
  | .rt d=>∀ v H,Same H₀ H→Rep K H d v→E.rt v H
  | .bk δ=>∀ σ H,SOk K H₀ gh owL H σ δ→E.bk σ H
  | .ct δ=>∀ σ H,SOk K H₀ gh owL H σ δ→E.ct σ H
def tS (K:PySem.W.Frag) (H₀:Hp) (gh:List (V × D)) (ow ow' owL:List Nat) (g:DS→Option DF):TS:=fun E σ H=>∃ δ fl,SOk K H₀ gh ow H σ δ∧g δ=some fl∧fl.ok K H₀ gh ow' owL E
theorem SOk.weak {K:PySem.W.Frag} {H₀:Hp} {gh:List (V × D)} {ow ow':List Nat} {H:Hp} {σ:St} {δ:DS} (h:SOk K H₀ gh ow H σ δ) (s:∀ i∈ow',i∈ow):SOk K H₀ gh ow' H σ δ:=⟨h.same,h.rep,h.gr,fun i hi=>h.own i (s i hi)⟩
theorem SOk.mono {K:PySem.W.Frag} {H₀:Hp} {gh:List (V × D)} {ow:List Nat} {H H':Hp} {σ:St} {δ:DS} (h:SOk K H₀ gh ow H σ δ) (s:Same H H'):SOk K H₀ gh ow H' σ δ:=⟨h.same.trans s,h.rep.mono s,h.gr.mono s,h.own⟩
theorem SOk.set {K:PySem.W.Frag} {H₀:Hp} {gh:List (V × D)} {ow:List Nat} {H:Hp} {σ:St} {δ:DS} {d:D} {v:V} (h:SOk K H₀ gh ow H σ δ) (r:Rep K H d v) (i:Nat):SOk K H₀ gh (ow.filter (· ≠ i)) H (σ.set i (some v)) (δ.set i (some d)):=by
  refine ⟨h.same,h.rep.set r i,h.gr,fun j hj a e=>?_⟩
  obtain ⟨hj1,hj2⟩:=List.mem_filter.mp hj
  have hne:j≠i:=of_decide_eq_true hj2
  rw [List.getElem?_set_ne (Ne.symm hne)] at e
  exact h.own j hj1 a e
theorem SOk.setOwn {K:PySem.W.Frag} {H₀:Hp} {gh:List (V × D)} {ow:List Nat} {H:Hp} {σ:St} {δ:DS} {d:D} {a:Addr} (h:SOk K H₀ gh ow H σ δ) (r:Rep K H d (.ref a)) (ha:H₀ a=none) (i:Nat):SOk K H₀ gh (i::ow) H (σ.set i (some (.ref a))) (δ.set i (some d)):=by
  refine ⟨h.same,h.rep.set r i,h.gr,fun j hj b e=>?_⟩
  by_cases hji:j=i
  · subst hji
    rw [List.getElem?_set_self'] at e
    cases hq:σ[j]? with
    | none=>rw [hq] at e;cases e
    | some o=>rw [hq] at e;cases e;exact ha
  · rw [List.getElem?_set_ne (Ne.symm hji)] at e
    exact h.own j ((List.mem_cons.mp hj).resolve_left hji) b e
section
variable {X:Cx} {H₀:Hp} {gh:List (V × D)} {ow ow1 ow' owL:List Nat} {a b e:Expr} {es:List Expr} {pos p:Pos} {fa fb:DS→Option D} {st:Stmt} {sts:List Stmt} {g g':DS→Option DF}
theorem s_nil:PSs X [] (tS X.K H₀ gh ow ow owL fun δ=>some (.nx δ)):=PSs.imp pss_nil fun E σ H ⟨δ,fl,so,e,q⟩=>by
  cases e
  exact q σ H so
def seqF (g g':DS→Option DF):DS→Option DF:=fun δ=>(g δ).bind fun fl=>match fl with
  | .nx δ'=>g' δ'
  | fl=>some fl
theorem s_cons (h1:PS X st (tS X.K H₀ gh ow ow1 owL g)) (h2:PSs X sts (tS X.K H₀ gh ow1 ow' owL g')):PSs X (st::sts) (tS X.K H₀ gh ow ow' owL (seqF g g')):=PSs.imp (pss_cons h1 h2) fun E σ H ⟨δ,fl,so,e,q⟩=>by
  unfold seqF at e
  cases eg:g δ with
  | none=>rw [eg] at e;cases e
  | some f1 =>
    rw [eg] at e
    refine ⟨δ,f1,so,eg,?_⟩
    cases f1 with
    | nx δ'=>exact fun σ' H' so'=>⟨δ',fl,so',e,q⟩
    | rt d=>cases e;exact q
    | bk δ'=>cases e;exact q
    | ct δ'=>cases e;exact q
theorem s_one (h1:PS X st (tS X.K H₀ gh ow ow' owL g)):PSs X [st] (tS X.K H₀ gh ow ow' owL g):=pss_one h1
theorem s_ret (ha:PE X a (tD X.K fa)):PS X (.Return (some a) pos) (tS X.K H₀ gh ow ow' owL fun δ=>(fa δ).map .rt):=PS.imp (ps_ret ha) fun E σ H ⟨δ,fl,so,e,q⟩=>by
  dsimp only at e
  cases ea:fa δ with
  | none=>rw [ea] at e;cases e
  | some d=>rw [ea] at e;cases e;exact ⟨δ,d,so.rep,ea,fun v H' s rv=>q v H' (so.same.trans s) rv⟩
theorem s_if {c:Expr} {ys zs:List Stmt} {tc:DS→Option Bool} (hc:PT X c (tT X.K tc)) (hy:PSs X ys (tS X.K H₀ gh ow ow' owL g)) (hz:PSs X zs (tS X.K H₀ gh ow ow' owL g')) :
    PS X (.If c ys zs pos) (tS X.K H₀ gh ow ow' owL fun δ=>(tc δ).bind fun k=>if k=true then g δ else g' δ):=PS.imp (ps_if hc hy hz) fun E σ H ⟨δ,fl,so,e,q⟩=>by
  dsimp only at e
  cases et:tc δ with
  | none=>rw [et] at e;cases e
  | some k =>
    rw [et] at e
    refine ⟨δ,k,so.rep,et,fun H' s=>?_⟩
    have e':(if k=true then g δ else g' δ)=some fl:=e
    cases k with
    | true=>exact iteT ⟨δ,fl,so.mono s,e',q⟩
    | false=>exact iteF ⟨δ,fl,so.mono s,e',q⟩
theorem s_set (i:Nat) {x:Str} {pos':Pos} (hN:X.N.Nodup) (hi:X.N[i]? = some x) (hx:Loc X.env.scope x) (ha:PE X a (tD X.K fa)) (hs:swapsWith a (some (.Name x pos')) pos.line X.env=pure false:=by rfl)
    (hf:X.fn x=true∨X.env.scope.names.lookup x=some .local:=by first | exact .inl rfl | exact .inr rfl | assumption) :
    PS X (.Assign [.Name x pos'] a pos) (tS X.K H₀ gh ow (ow.filter (· ≠ i)) owL fun δ=>(fa δ).map fun d=>.nx (δ.set i (some d))):=PS.imp (ps_set hN hi hx ha hs hf) fun E σ H ⟨δ,fl,so,e,q⟩=>by
  dsimp only at e
  cases ea:fa δ with
  | none=>rw [ea] at e;cases e
  | some d=>rw [ea] at e;cases e;exact ⟨δ,d,so.rep,ea,fun v H' s rv=>q _ H' ((so.mono s).set rv i)⟩
theorem s_setF (i:Nat) {x:Str} {pos':Pos} {ff:DS→Option (List D)} (hN:X.N.Nodup) (hi:X.N[i]? = some x) (hx:Loc X.env.scope x) (ha:PE X a (tF X.K ff)) (hs:swapsWith a (some (.Name x pos')) pos.line X.env=pure false:=by rfl)
    (hf:X.fn x=true∨X.env.scope.names.lookup x=some .local:=by first | exact .inl rfl | exact .inr rfl | assumption) :
    PS X (.Assign [.Name x pos'] a pos) (tS X.K H₀ gh ow (i::ow) owL fun δ=>(ff δ).map fun ds=>.nx (δ.set i (some (.lst ds)))):=PS.imp (ps_set hN hi hx ha hs hf) fun E σ H ⟨δ,fl,so,e,q⟩=>by
  dsimp only at e
  cases ea:ff δ with
  | none=>rw [ea] at e;cases e
  | some ds=>rw [ea] at e;cases e;exact ⟨δ,ds,so.rep,ea,fun l xs H' hl s hl' rs=>q _ H' ((so.mono s).setOwn (rep_lst hl' rs) (so.same.free hl) i)⟩
section
variable {tg iter elt:Expr} {ifs:List Expr} {scope:Scope} {cpos:Pos} {N':List Str} {inn:List (Option Nat)} {fi:DS→Option (List D)} {h:D→DS→Option DS} {fc:DS→Option Bool} {fe:DS→Option D} {ks:List Nat}
theorem s_comp (i:Nat) {x:Str} {pos':Pos} (hN:X.N.Nodup) (hi:X.N[i]? = some x) (hx:Loc X.env.scope x) (hsw:swapsWith (.ListComp elt [⟨tg,iter,ifs,0⟩] scope cpos) (some (.Name x pos')) pos.line X.env=pure true)
    (hc:X.calm=true) (S:CompSc X scope N' inn) (hit:PI X tg iter (tI X.K fi))
    (hin:∀ (s:Shared) (H:Hp) (fp:List Addr) (C:Addr),TgD (cxComp X scope N' s H fp C) tg h ks∧PIfs (cxComp X scope N' s H fp C) ifs fc∧PE (cxComp X scope N' s H fp C) elt (tD X.K fe))
    (hs:∀ x,foldedSetIterable iter X.env x=pure x:=by intro _;rfl)
    (hf:X.fn x=true∨X.env.scope.names.lookup x=some .local:=by first | exact .inl rfl | exact .inr rfl | assumption) :
    PS X (.Assign [.Name x pos'] (.ListComp elt [⟨tg,iter,ifs,0⟩] scope cpos) pos) (tS X.K H₀ gh ow (i::ow) owL fun δ=>((fi δ).bind fun ds=>compD h fc fe (innD inn δ) ds).map fun ds=>.nx (δ.set i (some (.lst ds)))):=by
  intro pins s σ H E I ⟨δ,fl,so,e,q⟩
  dsimp only at e
  cases ei:fi δ with
  | none=>rw [ei] at e;cases e
  | some ds =>
    rw [ei] at e
    cases ey:compD h fc fe (innD inn δ) ds with
    | none=>simp [ey] at e
    | some ys =>
      have e':DF.nx (δ.set i (some (.lst ys)))=fl:=by simpa [ey] using e
      subst e'
      have hcl:closureFor scope X.env=pure (clOf scope X.env):=closureFor_clOf fun y hy=>I.ok.has y (S.frees y hy).2
      rw [exec_Assign_Name_used _ _ _ _ hsw]
      refine wpAny_bind (wpAny_standAt (wpAny_bind ?_))
      show wpAny _ X.A (do let _ ← comprehension (.ListComp elt [⟨tg,iter,ifs,0⟩] scope cpos) scope X.env _ (newList []) false (eval iter X.env) (some (assign (.Name x pos') X.env))) _ _ s
      refine wpAny_bind (wpAny_mono (wpAny_comprehension_free (use:=some (assign (.Name x pos') X.env)) (Q:=fun _ s'=>SP X pins E .next s') rfl hs hcl S.kind S.locs
        (thn (hit pins s σ H (fun J H'=>∃ gh',Same H H'∧GRep X.K H' gh'∧ItD X.K J gh' ds∧ds.length≤sizeLine) I ⟨δ,ds,so.rep,ei,fun J gh' H' s' g i l=>⟨gh',s',g,i,l⟩⟩) fun v s1 h1=>thn h1 fun itv s2 h2=>?_))
        (fun _ s' hq=>wpAny_pure (wpAny_pure hq)) fun _ _ e=>e)
      obtain ⟨it,fp,tn,J,H2,rfl,I2,T,st,hfp,gh',S2,hg,hJ,hl⟩:=h2
      refine comp_block (RR:=fun acc C=>compPost (model X.prog X.w) X.A X.xe (some (assign (.Name x pos') X.env)) (fun _ s'=>SP X pins E .next s') acc C) hc S hin I2 T st hfp (so.rep.mono S2) hg hJ hl ey ?_
      intro l C xs H' s' m hl0 S' hl' hr I' hm fC
      show wpAny (model X.prog X.w) X.A (assign (.Name x pos') X.env (.ref l)) _ X.xe s'
      refine wpAny_assign_Name (store_ok2 I' hN hi hx (v:=.ref l) rfl (fun s'' I'' hk=>?_) hf)
      obtain ⟨f0,f1,f2,f3,f4,f5⟩:=fC
      obtain ⟨ad,hsb,had⟩:=hk
      have hCa:C≠ad:=by
        rcases had with z | z
        · rw [z];exact f1
        · exact fun w=>f4 x ad z w.symm
      refine ⟨m,hm.sameBut hsb hCa,fun h' hs'=>⟨_,H',I''.turned (t':=s''.toks) (fun b o hb e=>hs'.extBut b o hb e) f0 f1 f3 f4 f5,q _ H' ?_⟩⟩
      exact (so.mono (S2.trans S')).setOwn (rep_lst hl' hr) (so.same.free (S2.free hl0)) i
end
def forD (h:D→DS→Option DS) (gb:DS→Option DF):List D→DS→Option DF
  | [],δ=>some (.nx δ)
  | d::ds,δ=>(h d δ).bind fun δ1=>(gb δ1).bind fun fl=>match fl with
    | .nx δ2=>forD h gb ds δ2
    | .ct δ2=>forD h gb ds δ2
    | .bk δ2=>some (.nx δ2)
    | .rt d=>some (.rt d)
theorem for_core {tg iter : Expr} {body : List Stmt} {h : D → DS → Option DS} {ks : List Nat} {gb : DS → Option DF} {ds : List D} {gt : TG} {J : It} {gx : List (V × D)} {E : Ends} {σ : St} {H : Hp} {δ : DS} {fl : DF} {B : TS} (hB : ∀ E σ H, tS X.K H₀ (gx ++ gh) ow ow ow gb E σ H → B E σ H) (hgt : ∀ (v : V) (d : D) (σ : St) (H : Hp) (δ δ' : DS) (Q : St → Hp → Prop), Rep X.K H d v → SRep X.K H σ δ → h d δ = some δ' →
      (∀ σ',SRep X.K H σ' δ'→(∀ k,k∉ks→σ'[k]? = σ[k]?)→Q σ' H)→gt v σ H Q) (hks:∀ k∈ks,k∉ow)
    (so:SOk X.K H₀ (gx++gh) ow H σ δ) (hJ:ItD X.K J gx ds) (e:forD h gb ds δ=some fl) (q:fl.ok X.K H₀ gh ow owL E) :
    ∃ W:Nat→Nat→St→Hp→Prop,(∃ m,W 0 m σ H)∧∀ i m σ H,W i m σ H →
      (J.stop i H∧E.nx σ H)∨(J.go i H∧∃ N:St→Hp→Prop,(∀ σ' H',N σ' H'→∃ m',m' < m∧W (i+1) m' σ' H')∧∀ x H',J.yld i H x H'→gt x σ H' fun σ2 H2=>B { E with nx:=N,ct:=N,bk:=E.nx } σ2 H2):=by
  have weakG:∀ {H:Hp} {σ:St} {δ:DS},SOk X.K H₀ (gx++gh) ow H σ δ→SOk X.K H₀ gh ow H σ δ:=fun so=>⟨so.same,so.rep,fun p hp=>so.gr p (List.mem_append_right _ hp),so.own⟩
  refine ⟨fun i m σ H=>m=ds.length+1-i∧i≤ds.length∧∃ δ,SOk X.K H₀ (gx++gh) ow H σ δ∧forD h gb (ds.drop i) δ=some fl,⟨_,rfl,Nat.zero_le _,δ,so,e⟩,?_⟩
  rintro i m σ H ⟨hm,hi,δ,so,e⟩
  have hg:GRep X.K H gx:=fun p hp=>so.gr p (List.mem_append_left _ hp)
  by_cases hlt:i<ds.length
  · rw [List.drop_eq_getElem_cons hlt] at e
    unfold forD at e
    cases eb:h ds[i] δ with
    | none=>rw [eb] at e;cases e
    | some δ1 =>
      rw [eb] at e
      cases eg:gb δ1 with
      | none=>simp [eg] at e
      | some f1 =>
        refine .inr ⟨hJ.go i H hg hlt,fun σ' H'=>∃ δ2,SOk X.K H₀ (gx++gh) ow H' σ' δ2∧forD h gb (ds.drop (i+1)) δ2=some fl,fun σ' H' ⟨δ2,so2,e2⟩=>⟨ds.length+1-(i+1),by omega,rfl,hlt,δ2,so2,e2⟩,fun x H' y=>?_⟩
        obtain ⟨S,rx⟩:=hJ.yld i H x H' ds[i] hg (List.getElem?_eq_getElem hlt) y
        have so':=so.mono S
        refine hgt x ds[i] σ H' δ δ1 _ rx so'.rep eb fun σ2 sr2 hk2=>hB _ _ _ ⟨δ1,f1,⟨so'.same,sr2,so'.gr,fun j hj ad ea=>so'.own j hj ad (by rw [← hk2 j fun z=>hks j z hj];exact ea)⟩,eg,?_⟩
        cases f1 with
        | nx δ2=>exact fun σ3 H3 so3=>⟨δ2,so3,by simpa [eg] using e⟩
        | ct δ2=>exact fun σ3 H3 so3=>⟨δ2,so3,by simpa [eg] using e⟩
        | bk δ2 => have e' : DF.nx δ2 = fl := by simpa [eg] using e
                   subst e';exact fun σ3 H3 so3=>q σ3 H3 (weakG so3)
        | rt d => have e' : DF.rt d = fl := by simpa [eg] using e
                  subst e';exact q
  · have hil:i=ds.length:=by omega
    subst hil
    rw [List.drop_length] at e
    cases e
    exact .inl ⟨hJ.stop H hg,q σ H (weakG so)⟩
theorem s_for {tg iter:Expr} {body:List Stmt} {fi:DS→Option (List D)} {h:D→DS→Option DS} {ks:List Nat} {gb:DS→Option DF} (hp:PassesOwn (model X.prog X.w) X.A X.env X.xe) (hc:X.calm=true) (hit:PI X tg iter (tI X.K fi)) (hg:TgD X tg h ks) (hks:∀ k∈ks,k∉ow)
    (hb:∀ gh:List (V × D),PSs X body (tS X.K H₀ gh ow ow ow gb)) (hs:∀ x,foldedSetIterable iter X.env x=pure x:=by intro _;rfl) :
    PS X (.For tg iter body [] pos) (tS X.K H₀ gh ow ow owL fun δ=>(fi δ).bind fun ds=>forD h gb ds δ):=by
  obtain ⟨gt,hg1,hgt⟩:=hg
  intro pins s σ H E I ⟨δ,fl,so,e,q⟩
  dsimp only at e
  cases ei:fi δ with
  | none=>rw [ei] at e;cases e
  | some ds =>
    rw [ei] at e
    refine ps_for hp hc (PI.imp hit (t':=fun σ' H' R=>tI X.K fi σ' H' R) fun _ _ _ z=>z) hg1 (tb:=fun E' σ' H'=>∃ gx:List (V × D),tS X.K H₀ (gx++gh) ow ow ow gb E' σ' H') (fun pins s σ H E I ⟨gx,z⟩=>hb (gx++gh) pins s σ H E I z) hs pins s σ H E I ?_
    refine ⟨δ,ds,so.rep,ei,fun J gx H' S hgx hJ _=>?_⟩
    have so':=so.mono S
    exact for_core (E:=E) (tg:=tg) (iter:=iter) (body:=body) (owL:=owL) (B:=fun E' σ' H'=>∃ gx:List (V × D),tS X.K H₀ (gx++gh) ow ow ow gb E' σ' H') (fun _ _ _ z=>⟨_,z⟩) hgt hks ⟨so'.same,so'.rep,fun p hp=>(List.mem_append.mp hp).elim (hgx p) (so'.gr p),so'.own⟩ hJ e q
end
end L2
set_option Elab.async false
set_option linter.all false
set_option maxRecDepth 100000
namespace L2
open PySem PySem.Spec PyProof.Rows
mutual
def noL:D→Bool
  | .lst _=>false
  | .tup xs=>noLs xs
  | .fro xs=>noLs xs
  | _=>true
def noLs:List D→Bool
  | []=>true
  | d::ds=>noL d&&noLs ds
end
section
variable {K:PySem.W.Frag} {H:Hp} {l:Addr} {xs:List V} {o:HO}
mutual
theorem Rep.upd (hl:H l=some (.lst xs)):∀ {d:D} {v:V},noL d=true→Rep K H d v→Rep K (upd H l o) d v
  | .non,_,_,h=>by simpa only [Rep] using h
  | .bl _,_,_,h=>by simpa only [Rep] using h
  | .int _,_,_,h=>by simpa only [Rep] using h
  | .str _,_,_,h=>by simpa only [Rep] using h
  | .ty _,_,_,h=>by simpa only [Rep] using h
  | .lst ds,_,n,_=>by simp [noL] at n
  | .tup ds,v,n,h=>by
    obtain ⟨a,ys,e,q,r⟩:=h.tup_of
    subst e
    exact rep_tup (by rw [upd_ne (ne_of q hl (by intro z;cases z))];exact q) (Reps.upd hl (by simpa [noL] using n) r)
  | .fro ds,v,n,h=>by
    obtain ⟨a,ys,e,q,r⟩:=h.fro_of
    subst e
    refine rep_fro ?_ (Reps.upd hl (by simpa [noL] using n) r)
    rcases q with ⟨ob,q⟩ | q
    · exact .inl ⟨ob,by rw [upd_ne (ne_of q hl (by intro z;cases z))];exact q⟩
    · exact .inr q
theorem Reps.upd (hl:H l=some (.lst xs)):∀ {ds:List D} {vs:List V},noLs ds=true→Reps K H ds vs→Reps K (upd H l o) ds vs
  | [],_,_,h=>by rw [h.nil_of];exact reps_nil
  | d::ds,_,n,h=>by
    obtain ⟨v,r,rfl,q,t⟩:=h.cons_of
    have n':noL d=true∧noLs ds=true:=by simpa [noLs] using n
    exact reps_cons (Rep.upd hl n'.1 q) (Reps.upd hl n'.2 t)
end
end
def othersFrom (i:Nat):Nat→DS→Bool
  | _,[]=>true
  | k,o::r=>(decide (k=i) || (match o with | some d=>noL d | none=>true))&&othersFrom i (k+1) r
def others (i:Nat) (δ:DS):Bool:=othersFrom i 0 δ
theorem othersFrom_get {i:Nat}:∀ {k:Nat} {δ:DS},othersFrom i k δ=true→∀ (j:Nat) (d:D),δ[j]? = some (some d)→k+j≠i→noL d=true
  | _,[],_,j,d,e,_=>by simp at e
  | k,o::r,h,0,d,e,ne=>by
    simp at e;subst e
    unfold othersFrom at h
    have h1:=(Bool.and_eq_true_iff.mp h).1
    rcases Bool.or_eq_true_iff.mp h1 with z | z
    · exact absurd (of_decide_eq_true z) ne
    · exact z
  | k,o::r,h,j+1,d,e,ne=>by
    unfold othersFrom at h
    exact othersFrom_get (Bool.and_eq_true_iff.mp h).2 j d (by simpa using e) (by omega)
section
variable {X:Cx} {H₀:Hp} {gh:List (V × D)} {ow ow1 ow' owL:List Nat} {a b e:Expr} {es:List Expr} {pos p:Pos} {fa fb:DS→Option D} {st:Stmt} {sts:List Stmt} {g g':DS→Option DF}
theorem SOk.write {K:PySem.W.Frag} {H:Hp} {σ:St} {δ:DS} {i:Nat} {l:Addr} {xs ys:List V} {ds':List D} (so:SOk K H₀ gh ow H σ δ) (hi:i∈ow) (hσ:σ[i]? = some (some (.ref l))) (hl:H l=some (.lst xs)) (ho:others i δ=true) (hgh:∀ p∈gh,noL p.2=true)
    (rs:Reps K H ds' ys) (nl:noLs ds' = true):SOk K H₀ gh ow (upd H l (.lst ys)) σ (δ.set i (some (.lst ds'))):=by
  have h0:=so.own i hi l hσ
  refine ⟨fun b o e=>?_,⟨by rw [List.length_set];exact so.rep.1,fun x hx c P e=>(by have z:=so.rep.2.1 x hx c P e;rw [upd_ne (ne_of z hl (by intro q;cases q))];exact z),fun j d e=>?_⟩,fun p hp=>Rep.upd hl (hgh p hp) (so.gr p hp),so.own⟩
  · rw [upd_ne (ne_of_none e h0)];exact so.same b o e
  · by_cases hj:j=i
    · subst hj
      rw [List.getElem?_set_self'] at e
      cases q:δ[j]? with
      | none=>rw [q] at e;cases e
      | some o=>rw [q] at e;cases e;exact ⟨.ref l,hσ,rep_lst upd_same (Reps.upd hl nl rs)⟩
    · rw [List.getElem?_set_ne (Ne.symm hj)] at e
      obtain ⟨v,h1,h2⟩:=so.rep.2.2 j d e
      exact ⟨v,h1,Rep.upd hl (othersFrom_get ho j d e (by omega)) h2⟩
def appF (i:Nat) (fa:DS→Option D):DS→Option DF:=fun δ=>(fa δ).bind fun d=>match (δ[i]?).join with
  | some (.lst ds)=>if fit (ds.length+1)=true∧noLs ds=true∧noL d=true∧others i δ=true then some (.nx (δ.set i (some (.lst (ds++[d]))))) else none
  | _=>none
theorem noLs_app:∀ {ds es:List D},noLs ds=true→noLs es=true→noLs (ds++es)=true
  | [],_,_,h=>h
  | d::ds,es,h,g=>by
    have n':noL d=true∧noLs ds=true:=by simpa [noLs] using h
    simp [noLs,n'.1,noLs_app n'.2 g]
theorem s_append (i:Nat) {x:Str} {px pa pc:Pos} (hi:i∈ow) (hN:X.N[i]? = some x) (hv:Vis X.env.scope x) (hgh:∀ p∈gh,noL p.2=true) (ha:PE X a (tD X.K fa))
    (hd:(x==("__debug__" : Str))=false:=by decide) (hcd:(x==("__classdict__" : Str))=false:=by decide)
    (hbase:attributeBase (.Name x px) "append" X.env (eval (.Name x px) X.env)=eval (.Name x px) X.env:=by rfl)
    (hfew:((backTo pc (starEach [a] X.env)).all (fun x=>!x.1)&&(backToKw pc (keywordEach [] X.env)).all (fun x=>x.1.isSome)
      && decide ([a].length+([]:List Keyword).length+(if ([]:List Keyword).isEmpty then 0 else 1)<30))=true:=by rfl)
    (hline:(pa.endLine==pc.line)=true:=by rfl) (hs:starEach [a] X.env=(false,eval a X.env)::starEach [] X.env:=by rfl) (hplain:(backTo pc (starEach [] X.env)).any (·.1)=false:=by rfl) (hsw:swapsWith (.Call (.Attribute (.Name x px) "append" pa) [a] [] pc) none pos.line X.env=pure false:=by rfl) :
    PS X (.Expr (.Call (.Attribute (.Name x px) "append" pa) [a] [] pc) pos) (tS X.K H₀ gh ow ow owL (appF i fa)) :=
  PS.imp (ps_expr (pe_bm PySem.F.plainAttrs_list PySem.F.slot_list_append PySem.F.type_list_append mt_append (pe_var hN hv hd hcd) (da_cons ha da_nil hs) hbase hfew hline hs hplain) hsw) fun E σ H ⟨δ,fl,so,e,q⟩=>by
    unfold appF at e
    cases ea:fa δ with
    | none=>rw [ea] at e;cases e
    | some d =>
      rw [ea] at e
      cases eo:(δ[i]?).join with
      | none=>simp [eo] at e
      | some di =>
        obtain ⟨v,h1,h2⟩:=so.rep.get eo
        cases di with
        | lst ds =>
          have e':(if fit (ds.length+1)=true∧noLs ds=true∧noL d=true∧others i δ=true then some (DF.nx (δ.set i (some (.lst (ds++[d]))))) else none)=some fl:=by simpa [eo] using e
          by_cases hc:fit (ds.length+1)=true∧noLs ds=true∧noL d=true∧others i δ=true
          · rw [if_pos hc] at e'
            cases e'
            obtain ⟨l,us,rfl,hl,rs⟩:=h2.lst_of
            refine ⟨.ref l,h1,.inl ⟨rfl,us,SqL.of hl⟩,δ,[d],so.rep,by simp [consD,ea],fun vs H' S rv=>?_⟩
            obtain ⟨w,r,rfl,rw',rn⟩:=rv.cons_of
            cases rn.nil_of
            have hz:=fit_le hc.1
            refine ⟨l,us,w,rfl,rfl,S _ _ hl,by rw [rs.length];omega,?_⟩
            exact q _ _ ((so.mono S).write hi h1 (S _ _ hl) hc.2.2.2 hgh ((rs.mono S).append (reps_cons rw' reps_nil)) (noLs_app hc.2.1 (by simp [noLs,hc.2.2.1])))
          · rw [if_neg hc] at e';cases e'
        | _=>simp [eo] at e
theorem s_forR {tg iter:Expr} {body:List Stmt} {fi:DS→Option (List D)} {h:D→DS→Option DS} {ks:List Nat} {gb:DS→Option DF} (hp:PassesOwn (model X.prog X.w) X.A X.env X.xe) (hc:X.calm=true) (hit:PI X tg iter (tIR X.K fi)) (hg:TgD X tg h ks) (hks:∀ k∈ks,k∉ow)
    (hb:PSs X body (tS X.K H₀ gh ow ow ow gb)) (hs:∀ x,foldedSetIterable iter X.env x=pure x:=by intro _;rfl) :
    PS X (.For tg iter body [] pos) (tS X.K H₀ gh ow ow owL fun δ=>(fi δ).bind fun ds=>forD h gb ds δ):=by
  obtain ⟨gt,hg1,hgt⟩:=hg
  intro pins s σ H E I ⟨δ,fl,so,e,q⟩
  dsimp only at e
  cases ei:fi δ with
  | none=>rw [ei] at e;cases e
  | some ds =>
    rw [ei] at e
    refine ps_for hp hc hit hg1 hb hs pins s σ H E I ?_
    refine ⟨δ,ds,so.rep,ei,fun J H' S hJ _=>?_⟩
    have so':=so.mono S
    exact for_core (E:=E) (tg:=tg) (iter:=iter) (body:=body) (owL:=owL) (B:=tS X.K H₀ gh ow ow ow gb) (fun _ _ _ z=>z) hgt hks (gx:=[]) ⟨so'.same,so'.rep,so'.gr,so'.own⟩ hJ e q
def whileD (tc:DS→Option Bool) (gb:DS→Option DF):Nat→DS→Option DF
  | 0,_=>none
  | n+1,δ=>(tc δ).bind fun k=>if k=true then (gb δ).bind fun fl=>match fl with
      | .nx δ2=>whileD tc gb n δ2
      | .ct δ2=>whileD tc gb n δ2
      | .bk δ2=>some (.nx δ2)
      | .rt d=>some (.rt d)
    else some (.nx δ)
theorem s_while {c:Expr} {body:List Stmt} {tc:DS→Option Bool} {gb:DS→Option DF} (n:DS→Nat) (hp:PassesOwn (model X.prog X.w) X.A X.env X.xe) (hc:PT X c (tT X.K tc)) (hb:PSs X body (tS X.K H₀ gh ow ow ow gb)) :
    PS X (.While c body [] pos) (tS X.K H₀ gh ow ow owL fun δ=>whileD tc gb (n δ) δ):=PS.imp (ps_while hp hc hb) fun E σ H ⟨δ,fl,so,e,q⟩=>by
  refine ⟨fun m σ H=>∃ δ,SOk X.K H₀ gh ow H σ δ∧whileD tc gb m δ=some fl,⟨n δ,δ,so,e⟩,?_⟩
  rintro m σ H ⟨δ,so,e⟩
  cases m with
  | zero=>cases e
  | succ m =>
    unfold whileD at e
    cases et:tc δ with
    | none=>rw [et] at e;cases e
    | some k =>
      rw [et] at e
      refine ⟨δ,k,so.rep,et,fun H' S=>?_⟩
      cases k with
      | false =>
        have e':some (DF.nx δ)=some fl:=e
        cases e'
        exact iteF (q σ H' (so.mono S))
      | true =>
        refine iteT ⟨fun σ' H'=>∃ δ',SOk X.K H₀ gh ow H' σ' δ'∧whileD tc gb m δ' = some fl,fun σ' H' z=>⟨m,Nat.lt_succ_self m,z⟩,?_⟩
        cases eg:gb δ with
        | none=>simp [eg] at e
        | some f1 =>
          refine ⟨δ,f1,so.mono S,eg,?_⟩
          cases f1 with
          | nx δ2=>exact fun σ3 H3 so3=>⟨δ2,so3,by simpa [eg] using e⟩
          | ct δ2=>exact fun σ3 H3 so3=>⟨δ2,so3,by simpa [eg] using e⟩
          | bk δ2 => have e' : DF.nx δ2 = fl := by simpa [eg] using e
                     subst e';exact fun σ3 H3 so3=>q σ3 H3 so3
          | rt d => have e' : DF.rt d = fl := by simpa [eg] using e
                    subst e';exact q
end
def runD (n:Nat) (N:List Str) (g:DS→Option DF) (ds:List D):Option D :=
  if ds.length=n then (g (ds.map some++List.replicate (N.length-ds.length) none)).bind fun fl=>match fl with
    | .rt d=>some d
    | .nx _=>some .non
    | _=>none
  else none
theorem srep_start {K:PySem.W.Frag} {H:Hp} {N:List Str}:∀ {ds:List D} {vs:List V},TabK K H→Reps K H ds vs→SRep K H (start N vs) (ds.map some++List.replicate (N.length-ds.length) none):=fun {ds vs} tk r=>by
  have hl:=r.length
  unfold start
  refine ⟨by rw [List.length_append,List.length_append,List.length_map,List.length_map,List.length_replicate,List.length_replicate,hl],tk,fun i d e=>?_⟩
  by_cases hi:i<ds.length
  · rw [List.getElem?_append_left (by simpa using hi),List.getElem?_map] at e
    rw [List.getElem?_append_left (by rw [List.length_map];omega),List.getElem?_map]
    have hd:ds[i]? = some d:=by
      cases q:ds[i]? with
      | none=>rw [q] at e;cases e
      | some x=>rw [q] at e;cases e;rfl
    obtain ⟨v,h1,h2⟩:=r.get hd
    exact ⟨v,by rw [h1];rfl,h2⟩
  · rw [List.getElem?_append_right (by simpa using hi),List.getElem?_replicate] at e
    split at e<;>cases e
theorem def_fn {P:Program} {w:World} {K:PySem.W.Frag} {mg:Str→Option Value} {base:Heap} {x qual:Str} {st:Stmt} {f:Addr} {fd:FuncData} {N ps:List Str} {k:Nat} {g:DS→Option DF} (F:Fun K x qual st f fd) (S:FnScope N ps (defScope st))
    (hb:∀ (cdv:Value) (A:Around) (outer:List Env) (s:Shared) (H:Hp) (E:XK),Room k (A.deeper (envOfC qual (defScope st) s.heap.objs.size f cdv))→∃ ow',PSs (cxOf CX0 P w K mg base N qual (defScope st) f cdv A outer s H E).nox (defBody st) (tS K H [] [] ow' [] g)) :
    FnOk P w K mg base CX0 (k+1) f fd ps (spD K (runD ps.length N g)):=by
  refine F.ok S (fun vs H Q E h=>?_) (fun cdv A outer s H vs Q E hr h=>?_)
  · obtain ⟨ds,d,tk,rs,e,_⟩:=h
    unfold runD at e
    by_cases hl:ds.length=ps.length
    · rw [← hl];exact rs.length
    · rw [if_neg hl] at e;cases e
  · obtain ⟨ds,d,tk,rs,e,q⟩:=h
    obtain ⟨ow',B⟩:=hb cdv A outer s H E hr
    refine ⟨_,B,?_⟩
    unfold runD at e
    by_cases hl:ds.length=ps.length
    · rw [if_pos hl] at e
      cases eg:g (ds.map some++List.replicate (N.length-ds.length) none) with
      | none=>rw [eg] at e;cases e
      | some fl =>
        rw [eg] at e
        refine ⟨_,fl,⟨Same.refl H,srep_start tk rs,grep_nil,fun i hi=>nomatch hi⟩,eg,?_⟩
        cases fl with
        | nx δ=>cases e;exact fun σ' H' so=>q .non H' so.same rep_non
        | rt d'=>cases e;exact fun v H' s rv=>q v H' s rv
        | bk δ=>cases e
        | ct δ=>cases e
    · rw [if_neg hl] at e;cases e
theorem def_ok {P:Program} {w:World} {K:PySem.W.Frag} {mg:Str→Option Value} {base:Heap} {x qual:Str} {st:Stmt} {f:Addr} {fd:FuncData} {N ps:List Str} {k:Nat} {g:DS→Option DF} (F:Fun K x qual st f fd) (S:FnScope N ps (defScope st)) (hm:mg x=some (.ref f)) (hB:Binds K fd ps [])
    (hb:∀ (cdv:Value) (A:Around) (outer:List Env) (s:Shared) (H:Hp) (E:XK),Room k (A.deeper (envOfC qual (defScope st) s.heap.objs.size f cdv))→∃ ow',PSs (cxOf CX0 P w K mg base N qual (defScope st) f cdv A outer s H E).nox (defBody st) (tS K H [] [] ow' [] g)) :
    Ca P w K mg base (k+1) x (runD ps.length N g):=⟨f,fd,ps,hm,def_fn F S hb,hB,F.kp⟩
end L2
set_option Elab.async false
set_option linter.all false
set_option maxRecDepth 100000
namespace L2
open PySem PySem.Spec PyProof.Rows
def LamO (X:Cx) (H:Hp) (f:Addr) (q:Str) (params:Arguments) (body:Expr) (scope:Scope):Prop :=
  ∃ (pm ctv:Value) (c':Addr) (u u':HO) (o:Obj) (vs:Array Value) (t:Tok),H f=some (.frz (PySem.W.kla_obj "<lambda>" q params body scope (clOf scope X.env) pm c' ctv) u)∧H c' = some (.frz o u')∧o.data = .fields vs∧vs[1]? = some (.str q t)
theorem LamO.mono {X:Cx} {H H':Hp} {f:Addr} {q:Str} {params:Arguments} {body:Expr} {scope:Scope} (s:Same H H') (h:LamO X H f q params body scope):LamO X H' f q params body scope :=
  let ⟨pm,ctv,c',u,u',o,vs,t,a,b,r⟩:=h;⟨pm,ctv,c',u,u',o,vs,t,s _ _ a,s _ _ b,r⟩
theorem codeAmong_app {pos':Pos} {a b:Int} {c d:Value} (l:List Value) (h:TriplesOk l) (e:codeAmong pos' (l++[rawInt a,rawInt b,c])=some d):codeAmong pos' l=some d∨d=c:=by
  fun_induction TriplesOk l with
  | case1 =>
    simp only [List.nil_append,codeAmong,rawInt] at e
    split at e
    · exact .inr (Option.some.inj e).symm
    · cases e
  | case2 a' t b' u x rest ih =>
    simp only [List.cons_append,codeAmong] at e ⊢
    split
    · rename_i hc
      rw [if_pos hc] at e
      exact .inl e
    · rename_i hc
      rw [if_neg hc] at e
      exact ih h e
  | case3 l h1 h2=>exact h.elim
section
variable {X:Cx} {params:Arguments} {body:Expr} {scope:Scope} {pos:Pos} {c P:Addr}
theorem pe_lam {q:Str} (hq:X.env.qual ++ "<lambda>" = q) (hcode:X.env.code = .ref c) (hC:PySem.W.CodeHd X.base c P) (hdef:defaultsOf params X.env=([],[])) (hfree:∀ y,(y,NameKind.free)∈scope.names→X.env.kindOf y=some .cell∨X.env.kindOf y=some .free) :
    PE X (.Lambda params body scope pos) (fun σ H Q=>H P=some (.lam q)∧∀ f H',Same H H'→LamO X H' f q params body scope→Q (.ref f) H'):=by
  subst hq
  intro pins s σ H Q I ⟨hP,hQ⟩
  have hcl:closureFor scope X.env=pure (clOf scope X.env):=closureFor_clOf fun y hy=>I.ok.has y (hfree y hy)
  obtain ⟨ps,eP,tr,al⟩:=I.hok P _ hP
  have hC':PySem.W.CodeHd s.heap c P:=hC.keeps I.bk
  obtain ⟨bm,ob,b1,b2,b3,b4,b5,b6⟩:=I.ok.mod.bmain
  have hgs:s.heap.Ns mainGlobals X.mg:=I.ok.mod.glob.keeps I.bk
  have hgP:mainGlobals≠P:=fun z=>by
    obtain ⟨o,es,ep,e,hd,_⟩:=hgs
    rw [z,eP] at e;cases e;cases hd
  have hbP:bm≠P:=fun z=>by
    have e:=I.bk _ _ b3
    rw [z,eP] at e;cases e;cases b4
  have hbG:bm≠mainGlobals:=fun z=>by
    obtain ⟨o,es,ep,e,hd,_⟩:=I.ok.mod.glob
    rw [z,e] at b3;cases b3;rw [hd] at b6;cases b6
  refine PySem.W.kla_eval hdef ?_
  cases hcA:codeAmong pos ps.toList with
  | some cv =>
    obtain ⟨c',o,u,vs,t,rfl,hc',ho,hv⟩:=al pos cv hcA
    refine PySem.W.kla_makeFunctionHit (mg:=X.mg) (cv:=.ref c') hcl I.ok.glob hgs hcode hC' eP tr hcA ⟨bm,ob,b1,b2,hbG,hbP,I.bk _ _ b3,b4,b5,b6⟩ fun ctv h' tk hk hsz=>?_
    have I1:Inv X pins σ H { s with heap:=h',toks:=tk }:=I.kept hk
    have hf:H h'.objs.size=none:=I1.hok.fresh (Nat.le_refl _)
    have I2:=I1.laid (a:=h'.objs.size) (o:=.frz (PySem.W.kla_obj "<lambda>" (X.env.qual ++ "<lambda>") params body scope (clOf scope X.env) ((X.mg "__name__").getD .none) c' ctv) (.own h'.objs.size)) (t':=tk)
      (h':=h'.push (PySem.W.kla_obj "<lambda>" (X.env.qual ++ "<lambda>") params body scope (clOf scope X.env) ((X.mg "__name__").getD .none) c' ctv)) (fun b o e=>Heap.get?_push_of_some _ e) (Nat.le_refl _) ⟨Heap.get?_push_size _ rfl,_,Heap.get?_push_size _ rfl⟩
    exact ⟨.ref h'.objs.size,_,I2,rfl,hQ _ _ (same_new hf _) ⟨_,ctv,c',_,u,o,vs,t,upd_same,by rw [upd_ne (ne_of_none hc' hf)];exact hc',ho,hv⟩⟩
  | none =>
    refine PySem.W.kla_makeFunction (mg:=X.mg) hcl I.ok.glob hgs hcode hC' eP tr hcA hgP ⟨bm,ob,b1,b2,hbG,hbP,I.bk _ _ b3,b4,b5,b6⟩ fun c' ctv h' tk hx hge hlt hrec htb=>?_
    obtain ⟨c2,oc,vs,t,e2,hoc,hod,hov⟩:=hrec
    cases e2
    have hn:H c' = none:=I.hok.fresh hge
    have hPc:P≠c':=fun z=>by rw [z,hn] at hP;cases hP
    have h1:∀ b u,H b=some u→b≠P→upd (upd H c' (.frz oc (.own c'))) P (.lam (X.env.qual ++ "<lambda>")) b=some u:=fun b u e hb=>by
      rw [upd_ne hb,upd_ne (ne_of_none e hn)];exact e
    have hfz:∀ b o u,H b=some (.frz o u)→upd (upd H c' (.frz oc (.own c'))) P (.lam (X.env.qual ++ "<lambda>")) b=some (.frz o u):=fun b o u e=>h1 b _ e (ne_of e hP (by intro z;cases z))
    have same:Same H (upd (upd H c' (.frz oc (.own c'))) P (.lam (X.env.qual ++ "<lambda>"))):=fun b u e=>by
      by_cases hb:b=P
      · subst hb;rw [hP] at e;cases e;exact upd_same
      · exact h1 b u e hb
    have hok1:HOk X.prog X.w (upd (upd H c' (.frz oc (.own c'))) P (.lam (X.env.qual ++ "<lambda>"))) h':=fun b u e=>by
      by_cases hb:b=P
      · subst hb
        rw [upd_same] at e;cases e
        have et:(ps ++ #[rawInt pos.line,rawInt pos.col,Value.ref c']).toList=ps.toList++[rawInt pos.line,rawInt pos.col,Value.ref c']:=by simp
        refine ⟨_,htb,by rw [et];exact TriplesOk_snoc _ _ _ _ tr,fun pos' d hd=>?_⟩
        rw [et] at hd
        rcases codeAmong_app _ tr hd with z | z
        · obtain ⟨c3,o3,u3,vs3,t3,a1,a2,a3⟩:=al pos' d z
          exact ⟨c3,o3,u3,vs3,t3,a1,hfz _ _ _ a2,a3⟩
        · exact ⟨c',oc,.own c',vs,t,z,by rw [upd_ne (Ne.symm hPc)];exact upd_same,hod,hov⟩
      · rw [upd_ne hb] at e
        by_cases hb2:b=c'
        · subst hb2
          rw [upd_same] at e;cases e
          exact ⟨hoc,_,hoc⟩
        · rw [upd_ne hb2] at e
          refine (I.hok b u e).stay (fun d v hc r=>hx d v ?_ r) (fun d r=>h1 d _ r (ne_of r hP (by intro z;cases z))) (fun d xs r=>h1 d _ r (ne_of r hP (by intro z;cases z))) hfz
          rcases hc with z | z
          · rw [z];exact hb
          · exact ne_of z hP (by intro z;cases z)
    have nP:∀ b,H b=none→b≠P:=fun b n z=>by rw [z,hP] at n;cases n
    have un:Un X.fs [] H (upd (upd H c' (.frz oc (.own c'))) P (.lam (X.env.qual ++ "<lambda>"))) s.heap h' :=
      ⟨fun b o e n _ _=>hx b o (nP b n) e,fun b o e n _ _=>⟨o.slots,hx b o (nP b n) e⟩,fun b o e n _=>by rw [upd_ne (nP b n),upd_ne (Nat.ne_of_lt (Nat.lt_of_lt_of_le (Heap.lt_size e) hge))];exact n,
        fun b o e _=>by
          by_cases hb:b=P
          · exact ⟨_,hb ▸ htb⟩
          · exact ⟨o,hx b o hb e⟩,
        fun b xs e=>h1 b _ e (ne_of e hP (by intro z;cases z)),fun b o u e=>hfz b o u e,fun b qs e=>⟨#[],by rw [h1 b _ e (ne_of e hP (by intro z;cases z))];simp⟩⟩
    have I1:Inv X pins σ (upd (upd H c' (.frz oc (.own c'))) P (.lam (X.env.qual ++ "<lambda>"))) { s with heap:=h',toks:=tk }:=I.un un hok1
    generalize hH1:upd (upd H c' (.frz oc (.own c'))) P (.lam (X.env.qual ++ "<lambda>"))=H1 at I1 same
    have hc1:H1 c' = some (.frz oc (.own c')):=by rw [← hH1,upd_ne (Ne.symm hPc)];exact upd_same
    have hf:H1 h'.objs.size=none:=I1.hok.fresh (Nat.le_refl _)
    have I2:=I1.laid (a:=h'.objs.size) (o:=.frz (PySem.W.kla_obj "<lambda>" (X.env.qual ++ "<lambda>") params body scope (clOf scope X.env) ((X.mg "__name__").getD .none) c' ctv) (.own h'.objs.size)) (t':=tk)
      (h':=h'.push (PySem.W.kla_obj "<lambda>" (X.env.qual ++ "<lambda>") params body scope (clOf scope X.env) ((X.mg "__name__").getD .none) c' ctv)) (fun b o e=>Heap.get?_push_of_some _ e) (Nat.le_refl _) ⟨Heap.get?_push_size _ rfl,_,Heap.get?_push_size _ rfl⟩
    exact ⟨.ref h'.objs.size,_,I2,rfl,hQ _ _ (same.trans (same_new hf _)) ⟨_,ctv,c',_,_,oc,vs,t,upd_same,by rw [upd_ne (ne_of_none hc1 hf)];exact hc1,hod,hov⟩⟩
end
def cxLam (X:Cx) (q:Str) (scope:Scope) (N':List Str) (f c':Addr) (s:Shared) (H:Hp):Cx where
  prog:=X.prog
  w:=X.w
  K:=X.K
  mg:=X.mg
  base:=X.base
  A:=X.A.in1.in1.deeper (PySem.W.envX q scope s.heap.objs.size f (.ref c') (clOf scope X.env))
  N:=N'
  s₀:=s
  H₀:=H
  env:=PySem.W.envX q scope s.heap.objs.size f (.ref c') (clOf scope X.env)
  outer:=X.stack
  stack:=PySem.W.envX q scope s.heap.objs.size f (.ref c') (clOf scope X.env)::X.stack
  ex:=[]
  fn:=fun _=>false
  calm:=true
  pn:=[]
  xe:=fun _ _=>False
structure LamSc (X:Cx) (scope:Scope) (N':List Str) (par:Str) (inn:List (Option Nat)):Prop where
  kind:scope.kind = .function
  co:scope.isCoroutine=false
  gen:scope.isGenerator=false
  nocell:∀ y∈scope.names,y.2≠.cell
  parl:scope.names.lookup par=some .local
  frees:∀ y,(y,NameKind.free)∈scope.names→scope.names.lookup y=some .free∧(X.env.kindOf y=some .cell∨X.env.kindOf y=some .free)
  len:inn.length=N'.length
  first:N'[0]? = some par
  inn:∀ (i j:Nat),inn[i]? = some (some j)→∃ y,N'[i]? = some y∧X.N[j]? = some y∧(y,NameKind.free)∈scope.names
section
variable {X:Cx} {pins:List (Addr × Obj)} {σ:St} {H:Hp} {s:Shared} {scope:Scope} {N':List Str} {par:Str} {inn:List (Option Nat)} {q:Str} {f c':Addr}
theorem inv_lam {h':Heap} {v:V} {u:Value} (S:LamSc X scope N' par inn) (I:Inv X pins σ H s) (hc:X.calm=true) (rv:RelV v u) (hns:h'.Ns s.heap.objs.size fun x=>([(par,u)]:List (Str × Value)).reverse.lookup x) (hk:∀ b o,s.heap.get? b=some o→h'.get? b=some o) (tk:Nat) :
    Inv (cxLam X q scope N' f c' s H) [] ((innS inn σ).set 0 (some v)) H { s with heap:=h',toks:=tk }:=by
  have hfree:∀ y,(y,NameKind.free)∈scope.names→∃ c,X.env.cells.lookup y=some c:=fun y hy=>I.ok.has y (S.frees y hy).2
  have look:∀ x c,(clOf scope X.env).lookup x=some c→(x,NameKind.free)∈scope.names∧X.env.cells.lookup x=some c:=fun x c e=>by
    rcases clF_lookup scope.names [] x c e with ⟨h1,h2⟩ | h1
    · obtain ⟨c',hc'⟩:=hfree x h1
      rw [hc'] at h2
      exact ⟨h1,by rw [hc',h2];rfl⟩
    · cases h1
  have noA:∀ b:Addr,b∉(cxLam X q scope N' f c' s H).ex:=fun b z=>absurd (show b∈([]:List Addr) from z) (by simp)
  refine ⟨⟨I.ok.mod,S.kind,rfl,rfl,Nat.le_refl _,?inj,?has,?cab,fun _=>I.ok.hd hc,Around.frames_deeper I.ok.frames,.inr ⟨rfl,rfl⟩,fun b z=>absurd z (noA b),I.bs,Nat.le_trans I.ok.bsz I.sz,fun b _ _=>noA b,fun b z=>absurd z (noA b),I.stack,I.stkFree⟩,
    rfl,I.bare,Un.kept hk,⟨_,hns,?loc⟩,?cell,I.hok.fresh (Nat.le_refl _),?freeC,fun p hp=>absurd (show p∈([]:List (Addr × Obj)) from hp) (by simp),I.hok.kept hk,?len⟩
  case inj=>exact fun x y c h1 h2=>I.ok.inj x y c (look x c h1).2 (look y c h2).2
  case has =>
    intro x hx
    have hx':scope.names.lookup x=some .cell∨scope.names.lookup x=some .free:=hx
    rcases hx' with z | z
    · exact absurd rfl (S.nocell (x,.cell) (PySem.mem_of_lookup z))
    · exact clF_has scope.names [] x (.inl (PySem.mem_of_lookup z))
  case cab=>exact fun x c h1 _=>absurd h1 (by show ¬ (false=true);decide)
  case loc =>
    intro i x v' h1 h2 h3
    have h1':N'[i]? = some x:=h1
    by_cases hi:i=0
    · subst hi
      rw [S.first] at h1'
      cases h1'
      have hlen:0<(innS inn σ).length:=by
        have h0:0<N'.length:=by
          have:=S.first
          cases N' with
          | nil=>cases this
          | cons=>exact Nat.zero_lt_succ _
        unfold innS;rw [List.length_map,S.len];exact h0
      rw [List.getElem?_set_self hlen] at h2
      cases h2
      refine ⟨u,rv,.inl ⟨S.parl,?_⟩⟩
      simp
    · rw [List.getElem?_set_ne (Ne.symm hi)] at h2
      unfold innS at h2
      rw [List.getElem?_map] at h2
      cases ho:inn[i]? with
      | none=>rw [ho] at h2;cases h2
      | some o =>
        rw [ho] at h2
        cases o with
        | none=>cases h2
        | some j =>
          obtain ⟨y,e1,e2,e3⟩:=S.inn i j ho
          have e4':y=x:=by rw [e1] at h1';exact Option.some.inj h1'
          subst e4'
          have h2':(σ[j]?).join=some v':=by simpa using h2
          have h2'':σ[j]? = some (some v'):=by
            cases z:σ[j]? with
            | none=>rw [z] at h2';cases h2'
            | some o=>rw [z] at h2';exact congrArg some h2'
          have vis:Vis X.env.scope y:=.inr (S.frees y e3).2
          obtain ⟨m,hn,hl⟩:=I.loc
          obtain ⟨u',r,l⟩:=hl j y v' e2 h2'' vis
          refine ⟨u',r,.inr ⟨.inr (S.frees y e3).1,?_⟩⟩
          rcases l with ⟨k,_⟩ | ⟨_,c,hcl,hcell⟩
          · rcases (S.frees y e3).2 with z | z<;>rw [k] at z<;>cases z
          · obtain ⟨c'',hc'⟩:=clF_has (env:=X.env) scope.names [] y (.inl e3)
            have e5:=(look y c'' hc').2
            rw [hcl] at e5;cases e5
            exact ⟨c,hc',let ⟨o,ho,hd⟩:=hcell;⟨o,hk _ _ ho,hd⟩⟩
  case cell =>
    intro x c e
    obtain ⟨v,o,ho,hd⟩:=I.cell x c (look x c e).2
    exact ⟨v,o,hk _ _ ho,hd⟩
  case freeC=>exact fun x c e=>I.freeC x c (look x c e).2
  case len =>
    show ((innS inn σ).set 0 (some v)).length=N'.length
    unfold innS
    rw [List.length_set,List.length_map,S.len]
theorem lam_run {params:Arguments} {body:Expr} {fb:DS→Option D} {δ:DS} {d z:D} {v:V} {u:Value} (hbody:∀ (f c':Addr) (s:Shared) (H:Hp),PE (cxLam X q scope N' f c' s H) body (tD X.K fb)) (S:LamSc X scope N' par inn) (hc:X.calm=true)
    (hbind:∀ (pm ctv:Value) (c':Addr) (cl:List (Str × Addr)) (u:Value),bindArgs (PySem.W.kla_fn "<lambda>" q params body scope cl pm (.ref c') ctv) ⟨[u],[]⟩=pure [(par,u)])
    (hroom:X.A.in1.in1.depth<recursionLimit) (I:Inv X pins σ H s) (L:LamO X H f q params body scope) (rv:RelV v u) (rd:Rep X.K H d v) (sr:SRep X.K H σ δ) (e:fb ((innD inn δ).set 0 (some d))=some z) :
    wpAny (model X.prog X.w) X.A.in1.in1 (call (.ref f) [u]) (EP X pins σ fun v' H'=>Same H H'∧Rep X.K H' z v') (fun _ _=>False) s:=by
  obtain ⟨pm,ctv,c',uf,uc,o,vs,t,hf,hc',ho,hv⟩:=L
  have of:=(I.hok f _ hf).1
  have oc:=(I.hok c' _ hc').1
  refine wpAny_call (codeAny_mono (R:=CR CX0 X.stack X.prog X.w H s (fun v' H'=>Same H H'∧Rep X.K H' z v') E0) ?_ fun r s' hq=>?_)
  · refine PySem.W.kla_callFunE hroom of rfl S.co S.gen rfl ⟨c',o,vs,t,rfl,oc,ho,hv⟩ ?_
    rw [hbind]
    refine wpAny_pure (wpAny_newFunctionEnv S.nocell (fun y hy=>?_) (fun h₁ hns hsb=>⟨(I.nolimit).fresh _ hsb,?_⟩) S.kind)
    · obtain rfl:y=(par,u):=List.mem_singleton.mp hy
      exact S.parl
    · show codeAny _ _ (.expr body (PySem.W.envX q scope s.heap.objs.size f (.ref c') (clOf scope X.env))) _ _
      have hk₁:∀ b o,s.heap.get? b=some o→h₁.get? b=some o:=fun b o e=>hsb.extBut b o (Nat.ne_of_lt (Heap.lt_size e)) (Heap.get?_push_of_some _ e)
      have I':=inv_lam (q:=q) (f:=f) (c':=c') S I hc rv hns hk₁ (s.toks + [(par,u)].length)
      refine PySem.W.kla_codeExpr (wpAny_mono (hbody f c' s H [] _ _ H (fun v' H'=>Same H H'∧Rep X.K H' z v') I' ⟨(innD inn δ).set 0 (some d),z,(srep_inn inn sr).set rd 0,e,fun v' H' s' r'=>⟨s',r'⟩⟩) (fun v'' s' h=>?_) (fun _ _ h=>h.elim))
      obtain ⟨v',H',J,r',hq⟩:=h
      exact ⟨v',H',J.os,J.bare,J.base,J.hok,r',hq⟩
  · cases r with
    | error e=>exact hq.elim
    | ok fl =>
      cases fl with
      | ret u=>exact I.after hq
      | next=>exact False.elim hq
      | brk=>exact False.elim hq
      | cont=>exact False.elim hq
end
end L2
set_option Elab.async false
set_option linter.all false
set_option maxRecDepth 100000
set_option maxHeartbeats 1000000
namespace L2
open PySem PySem.Spec PyProof.Rows
theorem perm_lift {α β:Type} {g:α→β} {l m:List β} (h:l.Perm m):∀ qs:List α,m=qs.map g→∃ qs':List α,qs'.Perm qs∧l=qs'.map g:=by
  induction h with
  | nil=>intro qs e;cases qs with
    | nil=>exact ⟨[],.refl _,rfl⟩
    | cons=>cases e
  | cons x _ ih=>intro qs e;cases qs with
    | nil=>cases e
    | cons q r =>
      injection e with e1 e2
      obtain ⟨r',p,e3⟩:=ih r e2
      exact ⟨q::r',p.cons q,by rw [List.map_cons,← e1,e3]⟩
  | swap x y l=>intro qs e;cases qs with
    | nil=>cases e
    | cons q r=>cases r with
      | nil=>cases e
      | cons q2 r2 =>
        injection e with e1 e2
        injection e2 with e2 e3
        exact ⟨q2::q::r2,.swap _ _ _,by rw [List.map_cons,List.map_cons,← e1,← e2,← e3]⟩
  | trans _ _ ih1 ih2=>intro qs e;obtain ⟨q2,p2,e2⟩:=ih2 qs e;obtain ⟨q1,p1,e1⟩:=ih1 q2 e2;exact ⟨q1,p1.trans p2,e1⟩
def Own (X:Cx) (pins:List (Addr × Obj)) (a:Addr):Prop:=X.s₀.heap.objs.size≤a∧(∀ x c,X.env.cells.lookup x=some c→c≠a)∧∀ p∈X.pn++pins,p.1≠a
section
variable {X:Cx} {pins rest:List (Addr × Obj)} {σ:St} {H:Hp} {s:Shared} {f:Addr} {vs:List Value} {kz:List Int}
theorem Inv.unpin {p:Addr × Obj} (I:Inv X (p::rest) σ H s):Inv X rest σ H s:=I.pins_of fun q hq=>I.pin q (List.mem_append_right _ (List.mem_cons_of_mem _ hq))
theorem Inv.pinned1 {p:Addr × Obj} (I:Inv X rest σ H s) (h:s.heap.get? p.1=some p.2∧H p.1=none∧p.1≠X.env.locals∧p.1∉X.fs∧∀ v,p.2.data≠.cell v):Inv X (p::rest) σ H s:=I.pins_of fun q hq=>by
  rcases List.mem_cons.mp hq with rfl | hq
  · exact h
  · exact I.pin q (List.mem_append_right _ hq)
theorem Inv.upin {a:Addr} {xs:Array Value} {n:Nat} (g:Array Value→Array Value) (I:Inv X ((a,seqObj "list" xs n)::rest) σ H s) (st:Own X rest a):∃ n',Inv X ((a,seqObj "list" (g xs) n')::rest) σ H { s with heap:=s.heap.update a (Obj.mapSeq g) }:=by
  obtain ⟨e,nn,ne,nf,d⟩:=I.pin (a,seqObj "list" xs n) (List.mem_append_right _ List.mem_cons_self)
  have sb:=Heap.SameBut.update s.heap a (Obj.mapSeq g)
  have I2:Inv X rest σ H { s with heap:=s.heap.update a (Obj.mapSeq g),toks:=s.toks }:=I.unpin.turned (it:=a) (fun b o hb q=>(sb.2 b hb).trans q) nn ne (.inr st.1) st.2.1 st.2.2
  obtain ⟨n',hn'⟩:∃ n',(s.heap.update a (Obj.mapSeq g)).get? a=some (seqObj "list" (g xs) n'):=⟨_,get?_update_seq e g⟩
  exact ⟨n',I2.pinned1 ⟨hn',nn,ne,nf,fun v z=>nomatch z⟩⟩
def SortTurn (X:Cx) (σ:St) (H:Hp) (f:Addr) (vs:List Value) (kz:List Int):Prop:=∀ (i:Nat) (v:Value) (k:Int),vs[i]? = some v→kz[i]? = some k→∀ (pins':List (Addr × Obj)) (s':Shared) (H':Hp),Inv X pins' σ H' s'→Same H H' →
  wpAny (model X.prog X.w) X.A.in1.in1 (call (.ref f) [v]) (EP X pins' σ fun v' H''=>Same H' H''∧v' = .int k) (fun _ _=>False) s'
variable {a kS:Addr} {e e1:Nat} {keys:Array Value} {P:PySem.Fin→Shared→Prop} {E:Value→Shared→Prop} {A:Around} {H0:Hp}
theorem sort_tail {st:SortSt} (I:Inv X ((kS,seqObj "list" keys e)::(a,seqObj "list" #[] e1)::pins) σ H s) (sK:Own X ((a,seqObj "list" #[] e1)::pins) kS) (sA:Own X pins a)
    (hk:IntsAre keys.toList kz) (hlen:kz.length=vs.length) (h64:vs.length<64) (hp:(arrOf st).Perm (keys.zip vs.toArray)) (hs:SortedTo (arrOf st) (arrOf st).size) (hfl:failedOf st=none)
    (h:∀ s' out c,Inv X ((a,seqObj "list" out c)::pins) σ H s'→KskOut false kz vs out.toList→P (.done (.ret .none)) s') :
    wpAny (model X.prog X.w) A (ksk_tail a false e1 (.ref kS) st) P E s:=by
  have nk:=(I.pin _ (List.mem_append_right _ List.mem_cons_self)).1
  have hsz:keys.size=vs.length:=by
    have h1:=hk.length
    rw [Array.length_toList] at h1
    omega
  have hsz2:(arrOf st).size=vs.length:=by rw [hp.size_eq,Array.size_zip,hsz,List.size_toArray,Nat.min_self]
  obtain ⟨n1,I1⟩:=I.upin (fun _=>(#[]:Array Value)) sK
  have na:=(I1.unpin.pin _ (List.mem_append_right _ List.mem_cons_self)).1
  obtain ⟨n2,I2⟩:=I1.unpin.upin (fun _=>(arrOf st).map (·.2)) sA
  unfold ksk_tail
  try dsimp only
  refine wpAny_bind (listUpdate_at nk rfl ?_ (by rw [hsz,sizeLine_eq];omega) (Nat.zero_le _))
  refine wpAny_bind (wpAny_letGo ?_)
  refine wpAny_bind (seqEpoch_at na rfl ?_)
  refine wpAny_bind (listUpdate_at na rfl ?_ (Nat.zero_le _) (by simp only [Bool.false_eq_true,if_false,Array.size_map];rw [hsz2,sizeLine_eq];omega))
  rw [hfl]
  simp only [bne_self_eq_false,Bool.false_eq_true,if_false]
  refine wpAny_pure (h _ _ n2 I2 ?_)
  have:=ksk_out (b:=false) hk hp hs
  simpa using this
theorem sort_end (I:Inv X ((kS,seqObj "list" keys e)::(a,seqObj "list" #[] e1)::pins) σ H s) (sK:Own X ((a,seqObj "list" #[] e1)::pins) kS) (sA:Own X pins a)
    (hk:IntsAre keys.toList kz) (hlen:kz.length=vs.length) (h64:vs.length<64)
    (h:∀ s' out c,Inv X ((a,seqObj "list" out c)::pins) σ H s'→KskOut false kz vs out.toList→P (.done (.ret .none)) s') :
    wpAny (model X.prog X.w) A (ksk_end a false vs.toArray e1 (.ref kS) keys) P E s:=by
  have hsz:keys.size=vs.length:=by
    have h1:=hk.length
    rw [Array.length_toList] at h1
    omega
  have hzs:(keys.zip vs.toArray).size=vs.length:=by rw [Array.size_zip,hsz,List.size_toArray,Nat.min_self]
  unfold ksk_end
  simp only [Bool.false_eq_true,if_false]
  by_cases h2:vs.toArray.size<2
  · rw [if_pos h2,if_pos h2]
    refine wpAny_bind (wpAny_pure ?_)
    rw [StateT.run_pure]
    refine wpAny_bind (wpAny_pure ?_)
    try dsimp only
    refine sort_tail (st:=SortSt.mk' general' (keys.zip vs.toArray) #[] 7 none) I sK sA hk hlen h64 (Array.Perm.refl _) ?_ rfl h
    intro i j hij hj
    have hj2:j<(keys.zip vs.toArray).size:=hj
    rw [hzs] at hj2
    rw [List.size_toArray] at h2
    have:i=j:=by omega
    subst this
    exact Int.le_refl _
  · rw [if_neg h2,if_neg h2]
    rw [List.size_toArray] at h2
    rw [ksk_kind hk (by rw [hsz];omega)]
    refine wpAny_bind (wpAny_pure ?_)
    refine wpAny_bind (wpAny_mono (wpS_sortRuns (a₀:=keys.zip vs.toArray) (st:=SortSt.mk' oneType' (keys.zip vs.toArray) #[] 7 none)
      (Q:=fun _ st'=>(arrOf st').Perm (keys.zip vs.toArray)∧failedOf st' = none∧SortedTo (arrOf st') (keys.zip vs.toArray).size)
      (ksk_intKeys hk) ⟨Array.Perm.refl _,rfl,rfl,rfl⟩ (by rw [hzs];omega) (by rw [hzs];exact h64) fun st' a1 a2 a3=>⟨a1,a2,a3⟩) ?_ fun _ _ e=>e)
    rintro ⟨⟨⟩,st'⟩ s' ⟨rfl,hp,hf,hs⟩
    try dsimp only
    exact sort_tail I sK sA hk hlen h64 hp (by rw [hp.size_eq];exact hs) hf h
theorem sort_rest (I:Inv X ((kS,seqObj "list" #[] 0)::(a,seqObj "list" #[] e1)::pins) σ H s) (sK:Own X ((a,seqObj "list" #[] e1)::pins) kS) (sA:Own X pins a)
    (hlen:kz.length=vs.length) (h64:vs.length<64) (turn:SortTurn X σ H f vs kz)
    (h:∀ s' H' out c,Inv X ((a,seqObj "list" out c)::pins) σ H' s'→Same H H'→KskOut false kz vs out.toList→P (.done (.ret .none)) s') :
    wpAny (model X.prog X.w) X.A.in1.in1 (ksk_rest a (.ref f) false vs.toArray e1 (.ref kS)) P E s:=by
  unfold ksk_rest
  refine wpAny_bind (wpAny_rule ?_)
  first
    | rw [List.forIn_toArray]
    | (rw [← Array.forIn_toList];simp only [List.toList_toArray])
    | rw [← Array.forIn_toList]
  refine wpAny_bind (ksk_fold (fun i s'=>∃ H' kA e,Inv X ((kS,seqObj "list" kA e)::(a,seqObj "list" #[] e1)::pins) σ H' s'∧Same H H'∧IntsAre kA.toList (kz.take i)) vs 0 s
    ⟨H,#[],0,I,Same.refl _,by simpa using IntsAre.nil⟩ ?step ?done)
  case step =>
    rintro j x s' hx ⟨H',kA,e,I',S',hk⟩
    simp only [Nat.zero_add] at hk ⊢
    have hj:j<vs.length:=(List.getElem?_eq_some_iff.mp hx).1
    obtain ⟨k,hkj⟩:∃ k,kz[j]? = some k:=⟨_,List.getElem?_eq_getElem (by omega)⟩
    have hz:kA.size≤vs.length:=by
      have h1:=hk.length
      rw [Array.length_toList,List.length_take] at h1
      omega
    refine wpAny_bind (wpAny_attempt (wpAny_mono (turn j x k hx hkj _ s' H' I' S') (fun v s'' he=>?_) fun _ _ hF=>hF.elim))
    obtain ⟨v',H'',I2,rv,S2,hv⟩:=he
    subst hv
    obtain ⟨t2,rfl⟩:=rv
    try dsimp only
    have nk:=(I2.pin _ (List.mem_append_right _ List.mem_cons_self)).1
    obtain ⟨n3,I3⟩:=I2.upin (·.push (.int k t2)) sK
    have ek:kz.take (j+1)=kz.take j++[k]:=by rw [List.take_add_one,hkj];simp
    have ea:(kA.push (Value.int k t2)).toList=kA.toList++[Value.int k t2]:=by simp
    refine wpAny_bind (listUpdate_at nk rfl ?_ (by rw [sizeLine_eq];omega) (Nat.le_trans (Nat.le_of_eq (Array.size_push ..)) (by rw [sizeLine_eq];omega)))
    exact wpAny_pure ⟨rfl,H'',kA.push (.int k t2),n3,I3,S'.trans S2,by rw [ea,ek];exact ksk_snoc hk⟩
  case done =>
    rintro s' ⟨H',kA,e,I',S',hk⟩
    have hk':IntsAre kA.toList kz:=by
      have e3:kz.take (0+vs.length)=kz:=List.take_of_length_le (by omega)
      rw [e3] at hk
      exact hk
    have nk:=(I'.pin _ (List.mem_append_right _ List.mem_cons_self)).1
    try dsimp only
    refine wpAny_bind (listItems_at nk rfl ?_)
    exact sort_end I' sK sA hk' hlen h64 fun s'' out c I'' k''=>h s'' H' out c I'' S' k''
theorem sort_call {l:Addr} {Q:Value→Shared→Prop} (I:Inv X pins σ H s) (hl:s.heap.IsList l vs.toArray) (hlen:kz.length=vs.length) (h64:vs.length<64) (turn:SortTurn X σ H f vs kz)
    (h:∀ a s' H' out c,H a=none→Inv X ((a,seqObj "list" out c)::pins) σ H' s'→Same H H'→KskOut false kz vs out.toList→Own X pins a→Q (.ref a) s') :
    wpAny (model X.prog X.w) X.A (call (.builtin "sorted") [.ref l] [(Str.ofString "key", .ref f)]) Q E s:=by
  refine call_function_entry_kw kind_sorted plain_sorted entry_sorted (ksk_s1 _ _) ?_
  unfold Builtin.«sorted»
  refine wpAny_bind (m:=checkCount "sorted" 1 1 _) (wpAny_pure ?_)
  refine wpAny_bind (collect_list hl ?_ (by rw [sizeLine_eq];omega))
  refine wpAny_bind (wpAny_newList ?_ (by rw [sizeLine_eq];omega))
  have hsz:((s.heap.push (seqObj "list" #[] 0)).update s.heap.objs.size (Obj.mapSeq (· ++ vs.toArray))).objs.size=s.heap.objs.size+1:=by
    rw [Heap.size_update,size_push']
  have hoL:(((s.heap.push (seqObj "list" #[] 0)).update s.heap.objs.size (Obj.mapSeq (· ++ vs.toArray))).push (seqObj "list" vs.toArray 0)).get? (s.heap.objs.size+1)=some (seqObj "list" vs.toArray 0):=by
    rw [← hsz];exact Heap.get?_push_size _ rfl
  have keep:∀ b o,s.heap.get? b=some o→(((s.heap.push (seqObj "list" #[] 0)).update s.heap.objs.size (Obj.mapSeq (· ++ vs.toArray))).push (seqObj "list" vs.toArray 0)).get? b=some o:=fun b o q=>by
    have hlt:b<s.heap.objs.size:=Heap.lt_size q
    rw [Heap.get?_push_ne _ _ _ (by rw [hsz];exact Nat.ne_of_lt (Nat.lt_succ_of_lt hlt)),Heap.get?_update_ne _ _ _ _ (Nat.ne_of_lt hlt),Heap.get?_push_ne _ _ _ (Nat.ne_of_lt hlt)]
    exact q
  show wpAny _ _ _ _ _ { s with heap:=((s.heap.push (seqObj "list" #[] 0)).update s.heap.objs.size (Obj.mapSeq (· ++ vs.toArray))).push (seqObj "list" vs.toArray 0) }
  rw [hsz]
  generalize hh2:((s.heap.push (seqObj "list" #[] 0)).update s.heap.objs.size (Obj.mapSeq (· ++ vs.toArray))).push (seqObj "list" vs.toArray 0)=h2 at hoL keep
  have hn:H (s.heap.objs.size+1)=none:=I.hok.fresh (Nat.le_succ _)
  obtain ⟨_,f1,f2,f3,f4,f5⟩:=I.fpOk (H':=H) (b:=s.heap.objs.size+1) (Nat.le_succ _) hn
  have sA:Own X pins (s.heap.objs.size+1):=⟨Nat.le_trans I.sz (Nat.le_succ _),f4,f5⟩
  have I2:Inv X ((s.heap.objs.size+1,seqObj "list" vs.toArray 0)::pins) σ H { s with heap:=h2 }:=(I.kept (t':=s.toks) keep).pinned1 ⟨hoL,hn,f1,f2,fun v z=>nomatch z⟩
  generalize s.heap.objs.size+1=a at hoL hn sA I2
  refine wpAny_bind (wpAny_holding (wpAny_call_entry_kw slot_list_sort ⟨_,hoL,rfl⟩ entry_list_sort ?body (ksk_l1 _ _)))
  case body =>
    show wpAny (model X.prog X.w) X.A.in1.in1 (Builtin.«list.sort» ⟨[.ref a],[(Str.ofString "key", .ref f)]⟩) _ _ _
    rw [ksk_t1]
    obtain ⟨e1,I3⟩:=I2.upin (fun _=>(#[]:Array Value)) sA
    have ho1:=(I3.pin _ (List.mem_append_right _ List.mem_cons_self)).1
    unfold ksk_tree
    refine wpAny_bind (listItems_at hoL rfl ?_)
    refine wpAny_bind (listUpdate_at hoL rfl ?_ (by rw [List.size_toArray,sizeLine_eq];omega) (Nat.zero_le _))
    refine wpAny_bind (seqEpoch_at ho1 rfl ?_)
    refine wpAny_bind (wpAny_newTuple ?_ (by show vs.length≤_;rw [sizeLine_eq];omega))
    refine wpAny_bind (wpAny_newList ?_ (Nat.zero_le _))
    refine wpAny_holding ?_
    have I4:Inv X ((a,seqObj "list" #[] e1)::pins) σ H { s with heap:=(h2.update a (Obj.mapSeq fun _=>(#[]:Array Value))).push (seqObj "tuple" vs.toArray 0) }:=I3.kept (t':=s.toks) fun b o e=>Heap.get?_push_of_some _ e
    have hn4:H ((h2.update a (Obj.mapSeq fun _=>(#[]:Array Value))).push (seqObj "tuple" vs.toArray 0)).objs.size=none:=I4.hok.fresh (Nat.le_refl _)
    obtain ⟨_,g1,g2,g3,g4,g5⟩:=I4.fpOk (H':=H) (b:=((h2.update a (Obj.mapSeq fun _=>(#[]:Array Value))).push (seqObj "tuple" vs.toArray 0)).objs.size) (Nat.le_refl _) hn4
    have sK:Own X ((a,seqObj "list" #[] e1)::pins) ((h2.update a (Obj.mapSeq fun _=>(#[]:Array Value))).push (seqObj "tuple" vs.toArray 0)).objs.size:=⟨I4.sz,g4,g5⟩
    have I5:=(I4.kept (t':=s.toks) (h':=((h2.update a (Obj.mapSeq fun _=>(#[]:Array Value))).push (seqObj "tuple" vs.toArray 0)).push (seqObj "list" #[] 0)) fun b o e=>Heap.get?_push_of_some _ e).pinned1 (p:=(_,seqObj "list" #[] 0)) ⟨Heap.get?_push_size _ rfl,hn4,g1,g2,fun v z=>nomatch z⟩
    refine sort_rest I5 sK sA hlen h64 turn fun s' H' out c I' S' k'=>⟨_,rfl,?_⟩
    exact wpAny_pure ⟨_,rfl,h a s' H' out c hn I' S' k' sA⟩
end
end L2
set_option Elab.async false
set_option linter.all false
set_option maxRecDepth 100000
set_option maxHeartbeats 1000000
namespace L2
open PySem PySem.Spec PyProof.Rows
section
variable {X:Cx} {pins rest:List (Addr × Obj)} {σ:St} {H:Hp} {s:Shared}
theorem Inv.adopt {a:Addr} {its:List Value} {n:Nat} {xs:List V} (I:Inv X ((a,seqObj "list" its.toArray n)::rest) σ H s) (st:Own X rest a) (hv:Vals xs its) (hz:xs.length≤sizeLine):Inv X rest σ (upd H a (.lst xs)) s:=by
  obtain ⟨e,hn,ne,nf,d⟩:=I.pin (a,seqObj "list" its.toArray n) (List.mem_append_right _ List.mem_cons_self)
  refine ⟨I.ok,I.os,I.bare,⟨I.base.keep,I.base.slot,fun b o q m hx=>?_,I.base.there,fun b ys q=>?_,fun b o u q=>?_,fun b qs q=>?_⟩,I.loc,I.cell,?_,fun x c q=>?_,fun p hp=>?_,HOk.adopt I.hok hn ⟨hz,its,n,hv,e⟩,I.len⟩
  · rw [upd_ne (Nat.ne_of_lt (Nat.lt_of_lt_of_le (Heap.lt_size q) st.1))];exact I.base.free b o q m hx
  · have:=I.base.tups b ys q
    rw [upd_ne (ne_of_none this hn)];exact this
  · have:=I.base.frzs b o u q
    rw [upd_ne (ne_of_none this hn)];exact this
  · obtain ⟨m,this⟩:=I.base.tbls b qs q
    exact ⟨m,by rw [upd_ne (ne_of_none this hn)];exact this⟩
  · rw [upd_ne (Ne.symm ne)];exact I.free
  · rw [upd_ne (st.2.1 x c q)];exact I.freeC x c q
  · obtain ⟨h1,h2,h3,h4,h5⟩:=I.unpin.pin p hp
    exact ⟨h1,by rw [upd_ne (st.2.2 p hp)];exact h2,h3,h4,h5⟩
end
theorem vals_zip:∀ {xs:List V} {us:List Value},Vals xs us→∀ p∈us.zip xs,RelV p.2 p.1
  | _,_,.nil,_,h=>by simp at h
  | _,_,.cons r t,p,h=>by
    rcases List.mem_cons.mp (by simpa using h) with e | e
    · subst e;exact r
    · exact vals_zip t p e
theorem reps_zip {K:PySem.W.Frag} {H:Hp}:∀ {ds:List D} {xs:List V},Reps K H ds xs→∀ p∈xs.zip ds,Rep K H p.2 p.1
  | [],_,h,p,hp=>by rw [h.nil_of] at hp;simp at hp
  | d::ds,_,h,p,hp=>by
    obtain ⟨v,r,rfl,q,t⟩:=h.cons_of
    rcases List.mem_cons.mp (by simpa using hp) with e | e
    · subst e;exact q
    · exact reps_zip t p e
theorem vals_map {α:Type} (f:α→V) (g:α→Value):∀ (qs:List α),(∀ q∈qs,RelV (f q) (g q))→Vals (qs.map f) (qs.map g)
  | [],_=>.nil
  | q::qs,h=>.cons (h q List.mem_cons_self) (vals_map f g qs fun p hp=>h p (List.mem_cons_of_mem _ hp))
theorem reps_map {K:PySem.W.Frag} {H:Hp} {α:Type} (f:α→V) (g:α→D):∀ (qs:List α),(∀ q∈qs,Rep K H (g q) (f q))→Reps K H (qs.map g) (qs.map f)
  | [],_=>reps_nil
  | q::qs,h=>reps_cons (h q List.mem_cons_self) (reps_map f g qs fun p hp=>h p (List.mem_cons_of_mem _ hp))
def SortR (fx:DS→Option D) (fb:DS→Option D) (inn:List (Option Nat)) (δ:DS) (Q:List D→Prop):Prop :=
  ∃ (ds:List D) (ks:List Int),fx δ=some (.lst ds)∧ds.length<64∧ks.length=ds.length∧(∀ (i:Nat) (d:D) (k:Int),ds[i]? = some d→ks[i]? = some k→fb ((innD inn δ).set 0 (some d))=some (.int k)) ∧
    ∀ qs:List (Int × D),qs.Perm (ks.zip ds)→qs.Pairwise (fun p q=>p.1≤q.1)→Q (qs.map (·.2))
def tSort (K:PySem.W.Frag) (fx:DS→Option D) (fb:DS→Option D) (inn:List (Option Nat)):TE:=fun σ H Q =>
  ∃ (δ:DS) (R:List D→Prop),SRep K H σ δ∧SortR fx fb inn δ R∧∀ a xs ds H',R ds→H a=none→Same H H'→H' a=some (.lst xs)→Reps K H' ds xs→Q (.ref a) H'
section
variable {X:Cx} {e body:Expr} {params:Arguments} {scope:Scope} {p pos lpos kpos:Pos} {c P:Addr} {x par:Str} {N':List Str} {inn:List (Option Nat)} {fx fb:DS→Option D}
theorem pe_sorted (hcalm:X.calm=true) (hg:Gl X "sorted") (hm:X.mg "sorted" = none) (he:PE X e (tD X.K fx)) (hx:x∈lamDefs) (hT:PySem.W.tabIn X.K x=some (c,P)) (hC:PySem.W.CodeHd X.base c P) (hq:X.env.qual ++ "<lambda>" = lamQ x) (hcode:X.env.code = .ref c) (hdef:defaultsOf params X.env=([],[]))
    (S:LamSc X scope N' par inn) (hbody:∀ (f c':Addr) (s:Shared) (H:Hp),PE (cxLam X (lamQ x) scope N' f c' s H) body (tD X.K fb))
    (hbind:∀ (pm ctv:Value) (c':Addr) (cl:List (Str × Addr)) (u:Value),bindArgs (PySem.W.kla_fn "<lambda>" (lamQ x) params body scope cl pm (.ref c') ctv) ⟨[u],[]⟩=pure [(par,u)]) (hroom:X.A.in1.in1.depth<recursionLimit)
    (hs1:starEach [e] X.env=(false,eval e X.env)::starEach [] X.env:=by rfl)
    (hb1:backTo pos (starEach [e] X.env)=(false,eval e X.env)::backTo pos (starEach [] X.env):=by rfl)
    (hpl:(backTo pos (starEach [e] X.env)).any (·.1)=false:=by rfl)
    (hall:(backToKw pos (keywordEach [⟨some "key", .Lambda params body scope lpos,kpos⟩] X.env)).all (·.1.isSome)=true:=by rfl)
    (hkw:(backToKw pos (keywordEach [⟨some "key", .Lambda params body scope lpos,kpos⟩] X.env)).any (·.1.isNone)=false:=by rfl)
    (hnm:(backToKw pos (keywordEach [⟨some "key", .Lambda params body scope lpos,kpos⟩] X.env)).filterMap (·.1)=[Str.ofString "key"]:=by rfl) :
    PE X (.Call (.Name "sorted" p) [e] [⟨some "key", .Lambda params body scope lpos,kpos⟩] pos) (tSort X.K fx fb inn):=by
  intro pins s σ H Q I ⟨δ,R,sr,⟨ds,ks,ex,h64,hlen,hkeys,hR⟩,hQ⟩
  refine wpAny_Call_Name_kw (ld_blt I hg hm boot_sorted ?_ (by decide) (by decide))
  refine callWith_kw (thn ((pa_cons he pa_nil hs1) pos pins s σ H (fun xs H'=>∃ v,xs=[v]∧Same H H'∧Rep X.K H' (.lst ds) v) I ⟨δ,.lst ds,sr,ex,fun v H' s' r'=>⟨v,rfl,s',r'⟩⟩) fun us s1 h1=>?_) hb1 hpl hall hkw
  obtain ⟨vs1,H1,I1,r1,v,rfl,S1,rv⟩:=h1
  have tk1:=(sr.2.1.mono S1) x hx c P hT
  refine thn ((pk_cons (nm:=some "key") (kpos:=kpos) (pe_lam (pos:=lpos) hq hcode hC hdef fun y hy=>(S.frees y hy).2) pk_nil) pos pins s1 σ H1 (fun zs H'=>∃ f,zs=[.ref f]∧Same H1 H'∧LamO X H' f (lamQ x) params body scope) I1 ⟨tk1,fun f H' s' l'=>⟨f,rfl,s',l'⟩⟩) fun kvs s2 h2=>?_
  obtain ⟨zs,H2,I2,r2,f,rfl,S2,L2'⟩:=h2
  cases r1 with
  | cons ra rb=>cases rb with
    | nil=>cases r2 with
      | cons rc rd=>cases rd with
        | nil =>
          obtain ⟨l,xs,rfl,hl,rs⟩:=rv.lst_of
          cases ra
          cases rc
          rw [hnm]
          have hl2:=S2 _ _ hl
          have rs2:=rs.mono S2
          obtain ⟨hz,its,n,hvs,hlo⟩:=I2.hok l _ hl2
          have hxl:=rs.length
          have hil:=hvs.length
          have hlist:s2.heap.IsList l its.toArray:=⟨_,hlo,rfl,n,rfl⟩
          have S12:Same H H2:=S1.trans S2
          refine sort_call (kz:=ks) I2 hlist (by omega) (by omega) (fun i v k hv hk pins' s' H' I' S'=>?_) fun a s' H' out c' hna I' S' ko sA=>?_
          · have hi:i<its.length:=(List.getElem?_eq_some_iff.mp hv).1
            obtain ⟨xv,hxv⟩:∃ xv,xs[i]? = some xv:=⟨_,List.getElem?_eq_getElem (by omega)⟩
            obtain ⟨u',hu',ru⟩:=hvs.get hxv
            rw [hv] at hu';cases hu'
            obtain ⟨d,hd,rd⟩:=rs2.get' hxv
            refine thn (lam_run hbody S hcalm hbind hroom I' (L2'.mono S') ru (rd.mono S') (sr.mono (S12.trans S')) (hkeys i d k hd hk)) fun w s'' h=>?_
            obtain ⟨v',H'',J,rv',Sj,rz⟩:=h
            exact ⟨v',H'',J,rv',Sj,rz.int_of⟩
          · obtain ⟨ps,hp,ho,hs⟩:=ko
            have zl:(xs.zip ds).length=xs.length:=by rw [List.length_zip];omega
            have z2:(its.zip (xs.zip ds)).length=its.length:=by rw [List.length_zip,zl];omega
            let qs:List (Int × Value × V × D):=ks.zip (its.zip (xs.zip ds))
            have e1:ks.zip its=qs.map fun q=>(q.1,q.2.1):=by
              have:its=(its.zip (xs.zip ds)).map (·.1):=by rw [List.map_fst_zip (by omega)]
              show _=(ks.zip (its.zip (xs.zip ds))).map _
              conv=>lhs;rw [this]
              rw [List.zip_map_right]
              exact List.map_congr_left fun ⟨_,_⟩ _=>rfl
            have e2:ks.zip ds=qs.map fun q=>(q.1,q.2.2.2):=by
              have t1:ds=(xs.zip ds).map (·.2):=by rw [List.map_snd_zip (by omega)]
              have t2:xs.zip ds=(its.zip (xs.zip ds)).map (·.2):=by rw [List.map_snd_zip (by omega)]
              have t3:ds=(its.zip (xs.zip ds)).map (fun q=>q.2.2):=by
                conv=>lhs;rw [t1,t2,List.map_map]
                rfl
              show _=(ks.zip (its.zip (xs.zip ds))).map _
              conv=>lhs;rw [t3]
              rw [List.zip_map_right]
              exact List.map_congr_left fun ⟨_,_⟩ _=>rfl
            rw [e1] at hp
            obtain ⟨qs',hq',rfl⟩:=perm_lift hp qs rfl
            have all:∀ q∈qs',RelV q.2.2.1 q.2.1∧Rep X.K H2 q.2.2.2 q.2.2.1:=fun q hq=>by
              obtain ⟨k,u,xv,d⟩:=q
              have m1:=hq'.mem_iff.mp hq
              have m2:=(List.of_mem_zip m1).2
              have m3:=(List.of_mem_zip m2).2
              refine ⟨?_,reps_zip rs2 _ m3⟩
              have m4:(u,xv)∈its.zip xs:=by
                have e3:its.zip xs=(its.zip (xs.zip ds)).map fun q=>(q.1,q.2.1):=by
                  have:xs=(xs.zip ds).map (·.1):=by rw [List.map_fst_zip (by omega)]
                  conv=>lhs;rw [this]
                  rw [List.zip_map_right]
                  exact List.map_congr_left fun ⟨_,_⟩ _=>rfl
                rw [e3]
                exact List.mem_map.mpr ⟨(u,xv,d),m2,rfl⟩
              exact vals_zip hvs _ m4
            have hout:out=(qs'.map fun q=>q.2.1).toArray:=by
              rw [← Array.toArray_toList (xs:=out),ho,List.map_map];rfl
            subst hout
            have ql:qs'.length=xs.length:=by
              rw [hq'.length_eq]
              show (ks.zip (its.zip (xs.zip ds))).length=_
              rw [List.length_zip];omega
            have I6:=I'.adopt sA (vals_map (fun q=>q.2.2.1) (fun q=>q.2.1) qs' fun q hq=>(all q hq).1) (by rw [List.length_map];omega)
            have hn':H' a=none:=(I'.pin _ (List.mem_append_right _ List.mem_cons_self)).2.1
            have Sf:Same H' (upd H' a (.lst (qs'.map fun q=>q.2.2.1))):=same_new hn' _
            have rf:Reps X.K (upd H' a (.lst (qs'.map fun q=>q.2.2.1))) (qs'.map fun q=>q.2.2.2) (qs'.map fun q=>q.2.2.1):=reps_map _ _ qs' fun q hq=>((all q hq).2.mono S').mono Sf
            have hRq:=hR (qs'.map fun q=>(q.1,q.2.2.2)) (by rw [e2];exact hq'.map _) (by
              rw [List.pairwise_map] at hs ⊢
              refine hs.imp fun {p q} h=>?_
              simpa using h)
            rw [List.map_map] at hRq
            exact ⟨.ref a,_,I6,rfl,hQ a _ _ _ hRq (S12.free hna) (S12.trans (S'.trans Sf)) upd_same rf⟩
end
def tR (K:PySem.W.Frag) (H₀:Hp) (gh:List (V × D)) (ow ow' owL:List Nat) (G:DS→(DF→Prop)→Prop):TS:=fun E σ H=>∃ (δ:DS) (Q:DF→Prop),SOk K H₀ gh ow H σ δ∧G δ Q∧∀ fl,Q fl→fl.ok K H₀ gh ow' owL E
def ofG (g:DS→Option DF):DS→(DF→Prop)→Prop:=fun δ Q=>∃ fl,g δ=some fl∧Q fl
def seqG (G G':DS→(DF→Prop)→Prop):DS→(DF→Prop)→Prop:=fun δ Q=>∃ Q1,G δ Q1∧∀ fl,Q1 fl→match fl with
  | .nx δ'=>G' δ' Q
  | fl=>Q fl
def whileN (t:DS→Option Bool) (G:DS→(DF→Prop)→Prop):Nat→DS→(DF→Prop)→Prop
  | 0,_,_=>False
  | n+1,δ,Q=>∃ k,t δ=some k∧if k=true then ∃ Q1,G δ Q1∧∀ fl,Q1 fl→match fl with
      | .nx δ2=>whileN t G n δ2 Q
      | .ct δ2=>whileN t G n δ2 Q
      | .bk δ2=>Q (.nx δ2)
      | .rt d=>Q (.rt d)
    else Q (.nx δ)
def whileG (t:DS→Option Bool) (G:DS→(DF→Prop)→Prop):DS→(DF→Prop)→Prop:=fun δ Q=>∃ n,whileN t G n δ Q
def forN (h:D→DS→Option DS) (G:DS→(DF→Prop)→Prop):List D→DS→(DF→Prop)→Prop
  | [],δ,Q=>Q (.nx δ)
  | d::ds,δ,Q=>∃ δ1,h d δ=some δ1∧∃ Q1,G δ1 Q1∧∀ fl,Q1 fl→match fl with
      | .nx δ2=>forN h G ds δ2 Q
      | .ct δ2=>forN h G ds δ2 Q
      | .bk δ2=>Q (.nx δ2)
      | .rt d=>Q (.rt d)
def forG (fi:DS→Option (List D)) (h:D→DS→Option DS) (G:DS→(DF→Prop)→Prop):DS→(DF→Prop)→Prop:=fun δ Q=>∃ ds,fi δ=some ds∧forN h G ds δ Q
def sortG (i:Nat) (fx fb:DS→Option D) (inn:List (Option Nat)):DS→(DF→Prop)→Prop:=fun δ Q=>SortR fx fb inn δ fun ds=>Q (.nx (δ.set i (some (.lst ds))))
def callG (i:Nat) (fs:DS→Option (List D)) (R:List D→(D→Prop)→Prop):DS→(DF→Prop)→Prop:=fun δ Q=>∃ ds,fs δ=some ds∧R ds fun d=>Q (.nx (δ.set i (some d)))
section
variable {X:Cx} {H₀:Hp} {gh:List (V × D)} {ow ow1 ow' owL:List Nat} {a b e:Expr} {es:List Expr} {pos p:Pos} {fa fb:DS→Option D} {st:Stmt} {sts:List Stmt} {g g':DS→Option DF} {G G':DS→(DF→Prop)→Prop}
theorem r_of (h:PS X st (tS X.K H₀ gh ow ow' owL g)):PS X st (tR X.K H₀ gh ow ow' owL (ofG g)):=PS.imp h fun E σ H ⟨δ,Q,so,⟨fl,e,q⟩,z⟩=>⟨δ,fl,so,e,z fl q⟩
theorem r_cons (h1:PS X st (tR X.K H₀ gh ow ow1 owL G)) (h2:PSs X sts (tR X.K H₀ gh ow1 ow' owL G')):PSs X (st::sts) (tR X.K H₀ gh ow ow' owL (seqG G G')):=PSs.imp (pss_cons h1 h2) fun E σ H ⟨δ,Q,so,⟨Q1,g1,g2⟩,z⟩=>by
  refine ⟨δ,Q1,so,g1,fun fl hf=>?_⟩
  have:=g2 fl hf
  cases fl with
  | nx δ'=>exact fun σ' H' so'=>⟨δ',Q,so',this,z⟩
  | rt d=>exact z _ this
  | bk δ'=>exact z _ this
  | ct δ'=>exact z _ this
theorem r_one (h1:PS X st (tR X.K H₀ gh ow ow' owL G)):PSs X [st] (tR X.K H₀ gh ow ow' owL G):=pss_one h1
theorem r_while {c:Expr} {body:List Stmt} {tc:DS→Option Bool} (hp:PassesOwn (model X.prog X.w) X.A X.env X.xe) (hc:PT X c (tT X.K tc)) (hb:PSs X body (tR X.K H₀ gh ow ow ow G)) :
    PS X (.While c body [] pos) (tR X.K H₀ gh ow ow owL (whileG tc G)):=PS.imp (ps_while hp hc hb) fun E σ H ⟨δ,Q,so,⟨n,g1⟩,z⟩=>by
  refine ⟨fun m σ H=>∃ δ,SOk X.K H₀ gh ow H σ δ∧whileN tc G m δ Q,⟨n,δ,so,g1⟩,?_⟩
  rintro m σ H ⟨δ,so,e⟩
  cases m with
  | zero=>exact e.elim
  | succ m =>
    unfold whileN at e
    obtain ⟨k,et,e⟩:=e
    refine ⟨δ,k,so.rep,et,fun H' S=>?_⟩
    cases k with
    | false=>exact iteF (z _ e σ H' (so.mono S))
    | true =>
      obtain ⟨Q1,g1,g2⟩:=e
      refine iteT ⟨fun σ' H'=>∃ δ',SOk X.K H₀ gh ow H' σ' δ'∧whileN tc G m δ' Q,fun σ' H' z=>⟨m,Nat.lt_succ_self m,z⟩,?_⟩
      refine ⟨δ,Q1,so.mono S,g1,fun fl hf=>?_⟩
      have:=g2 fl hf
      cases fl with
      | nx δ2=>exact fun σ3 H3 so3=>⟨δ2,so3,this⟩
      | ct δ2=>exact fun σ3 H3 so3=>⟨δ2,so3,this⟩
      | bk δ2=>exact fun σ3 H3 so3=>z _ this σ3 H3 so3
      | rt d=>exact z _ this
theorem forR_core {tg iter : Expr} {body : List Stmt} {h : D → DS → Option DS} {ks : List Nat} {ds : List D} {gt : TG} {J : It} {gx : List (V × D)} {E : Ends} {σ : St} {H : Hp} {δ : DS} {Q : DF → Prop} {B : TS} (hB : ∀ E σ H, tR X.K H₀ (gx ++ gh) ow ow ow G E σ H → B E σ H) (hgt : ∀ (v : V) (d : D) (σ : St) (H : Hp) (δ δ' : DS) (Q : St → Hp → Prop), Rep X.K H d v → SRep X.K H σ δ → h d δ = some δ' →
      (∀ σ',SRep X.K H σ' δ'→(∀ k,k∉ks→σ'[k]? = σ[k]?)→Q σ' H)→gt v σ H Q) (hks:∀ k∈ks,k∉ow)
    (so:SOk X.K H₀ (gx++gh) ow H σ δ) (hJ:ItD X.K J gx ds) (e:forN h G ds δ Q) (q:∀ fl,Q fl→fl.ok X.K H₀ gh ow owL E) :
    ∃ W:Nat→Nat→St→Hp→Prop,(∃ m,W 0 m σ H)∧∀ i m σ H,W i m σ H →
      (J.stop i H∧E.nx σ H)∨(J.go i H∧∃ N:St→Hp→Prop,(∀ σ' H',N σ' H'→∃ m',m' < m∧W (i+1) m' σ' H')∧∀ x H',J.yld i H x H'→gt x σ H' fun σ2 H2=>B { E with nx:=N,ct:=N,bk:=E.nx } σ2 H2):=by
  have weakG:∀ {H:Hp} {σ:St} {δ:DS},SOk X.K H₀ (gx++gh) ow H σ δ→SOk X.K H₀ gh ow H σ δ:=fun so=>⟨so.same,so.rep,fun p hp=>so.gr p (List.mem_append_right _ hp),so.own⟩
  refine ⟨fun i m σ H=>m=ds.length+1-i∧i≤ds.length∧∃ δ,SOk X.K H₀ (gx++gh) ow H σ δ∧forN h G (ds.drop i) δ Q,⟨_,rfl,Nat.zero_le _,δ,so,e⟩,?_⟩
  rintro i m σ H ⟨hm,hi,δ,so,e⟩
  have hg:GRep X.K H gx:=fun p hp=>so.gr p (List.mem_append_left _ hp)
  by_cases hlt:i<ds.length
  · rw [List.drop_eq_getElem_cons hlt] at e
    unfold forN at e
    obtain ⟨δ1,eb,Q1,g1,g2⟩:=e
    refine .inr ⟨hJ.go i H hg hlt,fun σ' H'=>∃ δ2,SOk X.K H₀ (gx++gh) ow H' σ' δ2∧forN h G (ds.drop (i+1)) δ2 Q,fun σ' H' ⟨δ2,so2,e2⟩=>⟨ds.length+1-(i+1),by omega,rfl,hlt,δ2,so2,e2⟩,fun x H' y=>?_⟩
    obtain ⟨S,rx⟩:=hJ.yld i H x H' ds[i] hg (List.getElem?_eq_getElem hlt) y
    have so':=so.mono S
    refine hgt x ds[i] σ H' δ δ1 _ rx so'.rep eb fun σ2 sr2 hk2=>hB _ _ _ ⟨δ1,Q1,⟨so'.same,sr2,so'.gr,fun j hj ad ea=>so'.own j hj ad (by rw [← hk2 j fun z=>hks j z hj];exact ea)⟩,g1,fun fl hf=>?_⟩
    have:=g2 fl hf
    cases fl with
    | nx δ2=>exact fun σ3 H3 so3=>⟨δ2,so3,this⟩
    | ct δ2=>exact fun σ3 H3 so3=>⟨δ2,so3,this⟩
    | bk δ2=>exact fun σ3 H3 so3=>q _ this σ3 H3 (weakG so3)
    | rt d=>exact q _ this
  · have hil:i=ds.length:=by omega
    subst hil
    rw [List.drop_length] at e
    exact .inl ⟨hJ.stop H hg,q _ e σ H (weakG so)⟩
theorem r_forR {tg iter:Expr} {body:List Stmt} {fi:DS→Option (List D)} {h:D→DS→Option DS} {ks:List Nat} (hp:PassesOwn (model X.prog X.w) X.A X.env X.xe) (hc:X.calm=true) (hit:PI X tg iter (tIR X.K fi)) (hg:TgD X tg h ks) (hks:∀ k∈ks,k∉ow)
    (hb:PSs X body (tR X.K H₀ gh ow ow ow G)) (hs:∀ x,foldedSetIterable iter X.env x=pure x:=by intro _;rfl) :
    PS X (.For tg iter body [] pos) (tR X.K H₀ gh ow ow owL (forG fi h G)):=by
  obtain ⟨gt,hg1,hgt⟩:=hg
  intro pins s σ H E I ⟨δ,Q,so,⟨ds,ei,e⟩,z⟩
  refine ps_for hp hc hit hg1 hb hs pins s σ H E I ?_
  refine ⟨δ,ds,so.rep,ei,fun J H' S hJ _=>?_⟩
  have so':=so.mono S
  exact forR_core (E:=E) (tg:=tg) (iter:=iter) (body:=body) (owL:=owL) (B:=tR X.K H₀ gh ow ow ow G) (fun _ _ _ z=>z) hgt hks (gx:=[]) ⟨so'.same,so'.rep,so'.gr,so'.own⟩ hJ e z
theorem r_sort (i:Nat) {x:Str} {pos':Pos} {fx fb:DS→Option D} {inn:List (Option Nat)} (hN:X.N.Nodup) (hi:X.N[i]? = some x) (hx:Loc X.env.scope x) (ha:PE X a (tSort X.K fx fb inn)) (hs:swapsWith a (some (.Name x pos')) pos.line X.env=pure false:=by rfl)
    (hf:X.fn x=true∨X.env.scope.names.lookup x=some .local:=by first | exact .inl rfl | exact .inr rfl | assumption) :
    PS X (.Assign [.Name x pos'] a pos) (tR X.K H₀ gh ow (i::ow) owL (sortG i fx fb inn)):=PS.imp (ps_set hN hi hx ha hs hf) fun E σ H ⟨δ,Q,so,g1,z⟩=>by
  refine ⟨δ,_,so.rep,g1,fun l xs ds H' hR hl s hl' rs=>?_⟩
  exact z _ hR _ H' ((so.mono s).setOwn (rep_lst hl' rs) (so.same.free hl) i)
end
def spR (K:PySem.W.Frag) (R:List D→(D→Prop)→Prop):Sp:=fun vs H Q _=>∃ (ds:List D) (Z:D→Prop),TabK K H∧Reps K H ds vs∧R ds Z∧∀ d,Z d→∀ v H',Same H H'→Rep K H' d v→Q v H'
def runR (n:Nat) (N:List Str) (G:DS→(DF→Prop)→Prop) (ds:List D) (Z:D→Prop):Prop :=
  ds.length=n∧G (ds.map some++List.replicate (N.length-ds.length) none) fun fl=>match fl with
    | .rt d=>Z d
    | .nx _=>Z .non
    | _=>False
def CaR (P:Program) (w:World) (K:PySem.W.Frag) (mg:Str→Option Value) (base:Heap) (k:Nat) (x:Str) (R:List D→(D→Prop)→Prop):Prop :=
  ∃ (f:Addr) (fd:FuncData) (ps:List Str),mg x=some (.ref f)∧FnOk P w K mg base CX0 k f fd ps (spR K R)∧Binds K fd ps []∧PySem.W.keepIn K (.ref f)=true
theorem CaR.mono {P:Program} {w:World} {K:PySem.W.Frag} {mg:Str→Option Value} {base:Heap} {j k:Nat} {x:Str} {R:List D→(D→Prop)→Prop} (c:CaR P w K mg base j x R) (h:j≤k):CaR P w K mg base k x R:=by
  obtain ⟨f,fd,ps,h1,h2,h3,h4⟩:=c
  exact ⟨f,fd,ps,h1,h2.mono h,h3,h4⟩
theorem CaR.fn {P:Program} {w:World} {K:PySem.W.Frag} {mg:Str→Option Value} {base:Heap} {k:Nat} {x:Str} {R:List D→(D→Prop)→Prop} {F:List D→Option D} (c:CaR P w K mg base k x R) (h:∀ ds d,F ds=some d→R ds (· = d)):Ca P w K mg base k x F:=by
  obtain ⟨f,fd,ps,h1,h2,h3,h4⟩:=c
  exact ⟨f,fd,ps,h1,h2.imp fun vs H Q E ⟨ds,d,tk,rs,e,q⟩=>⟨ds,(· = d),tk,rs,h ds d e,fun d' z v H' s r=>q v H' s (z ▸ r)⟩,h3,h4⟩
section
variable {X:Cx} {H₀:Hp} {gh:List (V × D)} {ow ow1 ow' owL:List Nat} {a b e:Expr} {es:List Expr} {pos p:Pos}
def tDR (K:PySem.W.Frag) (f:DS→(D→Prop)→Prop):TE:=fun σ H Q=>∃ (δ:DS) (Z:D→Prop),SRep K H σ δ∧f δ Z∧∀ d,Z d→∀ v H',Same H H'→Rep K H' d v→Q v H'
theorem dR_call {k:Nat} {x:Str} {R:List D→(D→Prop)→Prop} {fs:DS→Option (List D)} (c:CaR X.prog X.w X.K X.mg X.base k x R) (hr:Room k X.A) (hg:Gl X x) (ha:PA X (e::es) (tDA X.K fs))
    (hd:(x==("__debug__" : Str))=false:=by decide) (he:starEach (e::es) X.env=(false,eval e X.env)::starEach es X.env:=by rfl) (hpl:(backTo pos (starEach es X.env)).any (·.1)=false:=by rfl):PE X (.Call (.Name x p) (e::es) [] pos) (tDR X.K fun δ Z=>∃ ds,fs δ=some ds∧R ds Z):=by
  obtain ⟨f,fd,ps,h1,h2,h3,h4⟩:=c
  exact (pe_call h2 hr hg h1 h4 h3 .nil pass0 ha hd he hpl).imp fun σ H Q ⟨δ,Z,sr,⟨ds,ex,hR⟩,q⟩ =>
    ⟨δ,ds,sr,ex,fun vs H1 s1 rs=>⟨ds,Z,sr.2.1.mono s1,by rw [List.append_nil];exact rs,hR,fun d hz v H' s2 rv=>q d hz v H' (s1.trans s2) rv⟩⟩
theorem r_set (i:Nat) {x:Str} {pos':Pos} {f:DS→(D→Prop)→Prop} (hN:X.N.Nodup) (hi:X.N[i]? = some x) (hx:Loc X.env.scope x) (ha:PE X a (tDR X.K f)) (hs:swapsWith a (some (.Name x pos')) pos.line X.env=pure false:=by rfl)
    (hf:X.fn x=true∨X.env.scope.names.lookup x=some .local:=by first | exact .inl rfl | exact .inr rfl | assumption) :
    PS X (.Assign [.Name x pos'] a pos) (tR X.K H₀ gh ow (ow.filter (· ≠ i)) owL fun δ Q=>f δ fun d=>Q (.nx (δ.set i (some d)))):=PS.imp (ps_set hN hi hx ha hs hf) fun E σ H ⟨δ,Q,so,g1,z⟩=>by
  exact ⟨δ,_,so.rep,g1,fun d hz v H' s rv=>z _ hz _ H' ((so.mono s).set rv i)⟩
end
theorem def_fnR {P:Program} {w:World} {K:PySem.W.Frag} {mg:Str→Option Value} {base:Heap} {x qual:Str} {st:Stmt} {f:Addr} {fd:FuncData} {N ps:List Str} {k:Nat} {G:DS→(DF→Prop)→Prop} (F:Fun K x qual st f fd) (S:FnScope N ps (defScope st))
    (hb:∀ (cdv:Value) (A:Around) (outer:List Env) (s:Shared) (H:Hp) (E:XK),fd.code=cdv→Mod K mg base→Room k (A.deeper (envOfC qual (defScope st) s.heap.objs.size f cdv))→∃ ow',PSs (cxOf CX0 P w K mg base N qual (defScope st) f cdv A outer s H E).nox (defBody st) (tR K H [] [] ow' [] G)) :
    FnOk P w K mg base CX0 (k+1) f fd ps (spR K (runR ps.length N G)):=by
  obtain ⟨oc,od,kV,doc,pm,an,cdv,ct,osl,rfl,lk,hcd⟩:=F.ex
  have main:Mod K mg base→FnOk P w K mg base CX0 (k+1) f (PySem.W.fnOf x qual (defArgs st) (defBody st) (defScope st) .none kV doc pm an cdv ct) ps (spR K (runR ps.length N G)):=fun hM=>by
    refine fn_of lk hcd S (fun vs H Q E h=>?_) (fun A outer s H vs Q E hr h=>?_)
    · obtain ⟨ds,Z,tk,rs,e,_⟩:=h
      rw [← e.1];exact rs.length
    · obtain ⟨ds,Z,tk,rs,⟨hl,g1⟩,q⟩:=h
      obtain ⟨ow',B⟩:=hb cdv A outer s H E rfl hM hr
      refine ⟨_,B.nox,_,_,⟨Same.refl H,srep_start tk rs,grep_nil,fun i hi=>nomatch hi⟩,g1,fun fl hf=>?_⟩
      cases fl with
      | nx δ=>exact fun σ' H' so=>q _ hf .non H' so.same rep_non
      | rt d'=>exact fun v H' s rv=>q _ hf v H' s rv
      | bk δ=>exact hf.elim
      | ct δ=>exact hf.elim
  exact ⟨fun vs H Q E ⟨ds,Z,tk,rs,e,_⟩=>by rw [← e.1];exact rs.length,fun A outer s H args us vs Q E hr he=>(main he.mod).run A outer s H args us vs Q E hr he⟩
end L2
set_option Elab.async false
set_option linter.all false
set_option maxRecDepth 100000
set_option maxHeartbeats 1000000
namespace L2
open PySem PySem.Spec PyProof.Rows
def Htab (K:PySem.W.Frag):Hp:=fun b=>lamDefs.findSome? fun x=>match PySem.W.tabIn K x with
  | some (_,P)=>if P=b then some (HO.lam (lamQ x)) else none
  | none=>none
theorem Htab_some {K:PySem.W.Frag} {b:Addr} {u:HO} (h:Htab K b=some u):∃ x∈lamDefs,∃ c,PySem.W.tabIn K x=some (c,b)∧u = .lam (lamQ x):=by
  obtain ⟨x,hx,e⟩:=List.exists_of_findSome?_eq_some h
  refine ⟨x,hx,?_⟩
  split at e
  · rename_i c P ht
    split at e
    · rename_i hP
      subst hP
      exact ⟨c,ht,(Option.some.inj e).symm⟩
    · cases e
  · cases e
theorem law_call {P:Program} {w:World} {K:PySem.W.Frag} {mg mb:Str→Option Value} {CX:CXT} {k:Nat} {fa a:Addr} {fd:FuncData} {x:Str} {sp:Sp} {s₁:Shared} {vs:List Value} {ns:List Int}
    (KX:K.In s₁.heap) (hns:s₁.heap.Ns mainGlobals mg) (hb:s₁.heap.Ns builtinsNs mb) (hbb:∀ x:Str,x ≠ "__name__" → mb x=bootBuiltins x) (hlim:s₁.heap.NoLimit) (hsee:s₁.heap.NoSeer) (hg:s₁.gens = #[])
    (hbm:∃ bm ob,mg "__builtins__" = some (.ref bm)∧bm≠builtinsNs∧s₁.heap.get? bm=some ob∧ob.cls = .type "module" ∧ ob.dict=some builtinsNs∧ob.data = .plain)
    (hT:∀ x∈lamDefs,∀ c P,PySem.W.tabIn K x=some (c,P)→PySem.W.CodeHd s₁.heap c P∧s₁.heap.get? P=some (PySem.W.tabObj #[])) (hNT:PySem.W.noTabs K=true) (hTK:TabK K (Htab K))
    (ha:s₁.heap.get? a=some { cls:=.type "list", data:=.seq vs.toArray }) (hi:IntsAre vs ns) (hl:ns.length≤sizeLine) (hr:Room k callerA)
    (F:∀ base:Heap,K.In base→base.Ns mainGlobals mg→FnOk P w K mg base CX k fa fd [x] sp) (hbind:∀ (s:Shared) (u:Value),BindsTo s fd ⟨[u],[]⟩ [(x,u)])
    (hsp:∀ H:Hp,TabK K H→SqF K H a (ns.map V.int)→sp [.ref a] H (fun v H'=>v = .bl true∧Same H H') fun _ _ _=>False)
    (hCX:∀ H e s',CX [] H s₁ (fun _ _ _=>False) e s'→False) :
    codeAny (model P w) callerA (.call (.ref fa) ⟨[.ref a],[]⟩) (fun r s'=>r = .ok (.ret (.bool true))∧OldK s₁.heap s'.heap∧s'.os=s₁.os∧AllBare s'.gens) s₁:=by
  have rv:=vals_ints hi
  have lenV:=hi.length
  have core:∀ H:Hp,SqF K H a (ns.map V.int)→HOk P w H s₁.heap→(∀ b u,H b=some u→(b=a∧K.lookup a=none∧∃ o xs,u = .frz o (.lst xs))∨Htab K b=some u)→TabK K H →
      codeAny (model P w) callerA (.call (.ref fa) ⟨[.ref a],[]⟩) (fun r s'=>r = .ok (.ret (.bool true))∧OldK s₁.heap s'.heap∧s'.os=s₁.os∧AllBare s'.gens) s₁:=by
    intro H hS hok hA hTH
    have trkd:∀ {b:Addr} {o:Obj},s₁.heap.get? b=some o→(o.cls≠.type "list")→(o≠PySem.W.tabObj #[])→H b=none:=fun {b o} e h1 h2=>by
      cases q:H b with
      | none=>rfl
      | some u =>
        rcases hA b u q with ⟨z,_⟩ | z
        · subst z;rw [ha] at e;cases e;exact absurd rfl h1
        · obtain ⟨y,hy,c,ht,_⟩:=Htab_some z
          have:=(hT y hy c b ht).2
          rw [e] at this
          exact absurd (Option.some.inj this) h2
    have base_of:∀ {b:Addr} {o:Obj},s₁.heap.get? b=some o→H b=none→(hidT s₁.heap H).get? b=some o:=fun e n=>hidT_get e n
    have noA:∀ {b:Addr} {o:Obj} {es:Array DictEntry} {ep:Nat},s₁.heap.get? b=some o→o.data = .dict es ep→H b=none:=fun {b o es ep} e d=>by
      cases q:H b with
      | none=>rfl
      | some u =>
        rcases hA b u q with ⟨z,_⟩ | z
        · subst z;rw [ha] at e;cases e
          have d':Data.seq vs.toArray _=Data.dict es ep:=d
          cases d'
        · obtain ⟨y,hy,c,ht,_⟩:=Htab_some z
          have:=(hT y hy c b ht).2
          rw [e] at this
          cases this
          cases d
    have nsK:∀ {b:Addr} {m:Str→Option Value},s₁.heap.Ns b m→(hidT s₁.heap H).Ns b m:=fun {b m} ⟨o,es,ep,e,d,r⟩=>⟨o,es,ep,base_of e (noA e d),d,r⟩
    have hKb:K.In (hidT s₁.heap H):=fun b o e=>base_of (KX b o e) (by
      cases q:H b with
      | none=>rfl
      | some u =>
        rcases hA b u q with ⟨z,zk,_⟩ | z
        · subst z;rw [zk] at e;cases e
        · obtain ⟨y,hy,c,ht,_⟩:=Htab_some z
          have h1:=(hT y hy c b ht).2
          rw [KX b o e] at h1
          have h2:=List.all_eq_true.mp hNT (b,o) (PySem.W.mem_of_lookupK e)
          cases h1
          exact absurd (show false=true from h2) Bool.false_ne_true)
    have hM:Mod K mg (hidT s₁.heap H):=⟨hKb,nsK hns,⟨mb,nsK hb,hbb⟩,let ⟨mc,h1,h2⟩:=hlim;⟨mc,nsK h1,h2⟩,
      let ⟨bm,ob,b1,b2,b3,b4,b5,b6⟩:=hbm;⟨bm,ob,b1,b2,base_of b3 (trkd b3 (by rw [b4];nofun) (fun z=>by rw [z] at b4;cases b4)),b4,b5,b6⟩,
      fun y hy c Q ht=>by
        obtain ⟨o,vs',file,tf,flags,tg,inF,text,tt,e1,r1,r⟩:=(hT y hy c Q ht).1
        exact ⟨o,vs',file,tf,flags,tg,inF,text,tt,base_of e1 (trkd e1 (by rw [r1];nofun) (fun z=>by rw [z] at r1;cases r1)),r1,r⟩,
      ⟨let ⟨mc,h1,h2⟩:=hsee.statics;⟨mc,nsK h1,h2⟩,let ⟨mc,h1,h2⟩:=hsee.mods;⟨mc,nsK h1,h2⟩,let ⟨mc,h1,h2⟩:=hsee.imp;⟨mc,nsK h1,h2⟩,
        let ⟨m',bm,ob,b0,b1,b3,b4,b5⟩:=hsee.main;⟨m',bm,ob,nsK b0,b1,base_of b3 (trkd b3 (by rw [b4];nofun) (fun z=>by rw [z] at b4;cases b4)),b4,b5⟩⟩⟩
    have e0:Env0 P w K mg (hidT s₁.heap H) callerA [] s₁ H:=⟨rfl,hM,fun b o e=>of_hidT e,Nat.le_of_eq (hidT_size _ _),trivial,fun b hb=>absurd (show b∈([]:List Addr) from hb) (by simp),hok,.of_eq hg⟩
    refine codeAny_mono ((F _ hKb (nsK hns)).run callerA [] s₁ H ⟨[.ref a],[]⟩ [.ref a] [.ref a] _ _ hr e0 (hbind s₁ (.ref a)) (.cons rfl .nil) (hsp H hTH hS)) fun r s' h=>?_
    cases r with
    | error e=>exact (hCX H e s' h).elim
    | ok fl =>
      cases fl with
      | next=>exact False.elim h
      | brk=>exact False.elim h
      | cont=>exact False.elim h
      | ret u =>
        obtain ⟨v,H',os,bare,un,hok',r',q',S'⟩:=h
        subst q'
        obtain rfl:u=Value.bool true:=r'
        have all:∀ b o,s₁.heap.get? b=some o→s'.heap.get? b=some o∨(isCodeTable s₁.heap b∧o=PySem.W.tabObj #[]∧∃ ps,s'.heap.get? b=some (PySem.W.tabObj ps)):=fun b o e=>by
          cases q:H b with
          | none=>exact .inl (un.keep b o e q (by intro z;exact absurd (show b∈([]:List Addr) from z) (by simp)) (by simp))
          | some u =>
            rcases hA b u q with ⟨z,_,ob,xs,rfl⟩ | z
            · have z2:=un.frzs b ob _ q
              obtain ⟨e1,_⟩:=hok b _ q
              obtain ⟨e2,_⟩:=hok' b _ z2
              rw [e] at e1;cases e1
              exact .inl e2
            · obtain ⟨y,hy,c,ht,rfl⟩:=Htab_some z
              have h1:=hT y hy c b ht
              rw [e] at h1
              obtain ⟨ps,e2,_⟩:=hok' b _ (S' b _ q)
              exact .inr ⟨(h1.1.tab (h1.2 ▸ e)).isCodeTable,Option.some.inj h1.2,ps,e2⟩
        refine ⟨rfl,⟨fun b o e=>?_,fun b o e=>?_⟩,os,bare⟩
        · rcases all b o e with z | ⟨t,rfl,ps,hp⟩
          · exact .inl z
          · exact .inr (.inl ⟨t,rfl,#[],ps,rfl,by rw [Array.empty_append];exact hp⟩)
        · rcases all b o e with z | ⟨t,rfl,ps,hp⟩
          · exact ⟨_,z⟩
          · exact ⟨_,hp⟩
  have tabOk:∀ {H:Hp} {b:Addr} {u:HO},Htab K b=some u→ObjOk P w H s₁.heap b u:=fun {H b u} z=>by
    obtain ⟨y,hy,c,ht,rfl⟩:=Htab_some z
    exact ⟨#[],(hT y hy c b ht).2,trivial,fun pos d hd=>by simp [codeAmong] at hd⟩
  cases hk:K.lookup a with
  | some o =>
    have e:=KX a o hk
    rw [ha] at e
    cases e
    exact core (Htab K) (.inr ⟨_,vs.toArray,_,hk,rfl,rfl,rfl,by rw [List.size_toArray,lenV];exact hl,by simpa using rv⟩) (fun b u z=>tabOk z) (fun b u z=>.inr z) hTK
  | none =>
    have nota:Htab K a=none:=by
      cases q:Htab K a with
      | none=>rfl
      | some u =>
        obtain ⟨y,hy,c,ht,_⟩:=Htab_some q
        have:=(hT y hy c a ht).2
        rw [ha] at this
        cases this
    have hne:∀ b u,Htab K b=some u→b≠a:=fun b u z q=>by rw [q,nota] at z;cases z
    refine core (fun b=>if b=a then some (.frz { cls:=.type "list", data:=.seq vs.toArray } (.lst (ns.map V.int))) else Htab K b) (.inl ⟨{ cls:=.type "list", data:=.seq vs.toArray },if_pos rfl⟩) (fun b u z=>?_) (fun b u z=>?_) (fun y hy c Q ht=>?_)
    · by_cases hb:b=a
      · have z':=(if_pos hb).symm.trans z
        cases z'
        subst hb
        exact ⟨ha,by rw [List.length_map];exact hl,vs,_,rv,ha⟩
      · have z':=(if_neg hb).symm.trans z
        exact tabOk z'
    · by_cases hb:b=a
      · have z':=(if_pos hb).symm.trans z
        cases z'
        exact .inl ⟨hb,hk,_,_,rfl⟩
      · exact .inr ((if_neg hb).symm.trans z)
    · have:=hTK y hy c Q ht
      exact (if_neg (hne _ _ this)).trans this
theorem walk_ofK {l:PySem.W.OpenLaw} {n k:Nat} {q:Program} {loose:List Str} {XP:(Str→Option Value)→Heap→Prop} {YP:World→Heap→Prop} {d:DefRec} {K:Params→PySem.W.Frag} {CX:CXT} {sp:PySem.W.Frag→Sp} {x:Str}
    (hn:l.most=some n) (hn2:n≤sizeLine) (hdf:d.params.defaults=[]) (hr:Room k callerA) (hin:importsNone q=true)
    (hY:∀ (w:World) (h:Heap),YP w h→(K w.params).In h)
    (hrec:∀ x∈lamDefs,(∀ w:World,PySem.W.tabIn (K w.params) x=none)∨((recsOf q).find? fun e=>e.name==x).isSome=true)
    (hNT:∀ w:World,PySem.W.noTabs (K w.params)=true) (hTK:∀ w:World,TabK (K w.params) (Htab (K w.params)))
    (F:∀ (w:World) (mg:Str→Option Value) (fa:Addr) (h:Heap),(K w.params).In h→h.Ns mainGlobals mg→mg d.name=some (.ref fa) →
      ∃ fd:FuncData,(∀ (s:Shared) (u:Value),BindsTo s fd ⟨[u],[]⟩ [(x,u)]) ∧
        ∀ base:Heap,(K w.params).In base→base.Ns mainGlobals mg→FnOk l.prog w (K w.params) mg base CX k fa fd [x] (sp (K w.params)))
    (hsp:∀ (K:PySem.W.Frag) (H:Hp) (a:Addr) (ns:List Int),ns.length≤n→TabK K H→SqF K H a (ns.map V.int)→sp K [.ref a] H (fun v H'=>v = .bl true∧Same H H') fun _ _ _=>False)
    (hCX:∀ (H:Hp) (s:Shared) (e:Value) (s':Shared),CX [] H s (fun _ _ _=>False) e s'→False) :
    PySem.W.WalkO q loose XP YP l.row.toRowW d [] (fun f vs=>PySem.call f vs):=by
  refine Att.attach_call hn hdf fun w s₀ s₁ mg mb fa o pm cd doc a vs ns G Y ho hd hcd hmg hobj hints hlen hg=>?_
  have KX:=hY w _ Y
  obtain ⟨fd,hb,hF⟩:=F w mg fa _ KX G.T.g hmg
  refine law_call KX G.T.g G.T.b G.T.builtins G.T.nolimit (G.T.seer hin) hg G.T.bmain (fun y hy c P ht=>?_) (hNT w) (hTK w) hobj hints (Nat.le_trans hlen hn2) hr hF hb (fun H hT hS=>hsp (K w.params) H a ns hlen hT hS) fun H e s'=>hCX H s₁ e s'
  rcases hrec y hy with z | z
  · rw [z w] at ht;cases ht
  · obtain ⟨dr,hdr⟩:=Option.isSome_iff_exists.mp z
    exact PySem.W.tab_of G.T KX hdr ht
theorem script_D {K:PySem.W.Frag} {H:Hp} {a:Addr} {ns:List Int} {F:List D→Option D} (hT:TabK K H) (hS:SqF K H a (ns.map V.int)) (h:F [.fro (ns.map D.int)]=some (.bl true)):spD K F [.ref a] H (fun v H'=>v = .bl true∧Same H H') fun _ _ _=>False :=
  ⟨[.fro (ns.map D.int)],.bl true,hT,reps_cons (rep_fro hS (reps_ints ns)) reps_nil,h,fun v H' s r=>⟨r.bl_of,s⟩⟩
theorem tab_mk {K:PySem.W.Frag} {x:Str} {f c P:Addr} {oc oc':Value} {od od':Option Addr} {fd:FuncData} {sl sl':Array (Option Value)} {vs:Array Value} (a:PySem.W.nsIn K mainGlobals x=some (some (.ref f))) (l:K.lookup f=some ⟨oc,od,.func fd,sl⟩) (hc:fd.code = .ref c) (lc:K.lookup c=some ⟨oc',od',.fields vs,sl'⟩) (hv:vs[11]? = some (.ref P)):PySem.W.tabIn K x=some (c,P):=by
  unfold PySem.W.tabIn
  rw [a]
  simp only [l,hc,lc,hv]
end L2
set_option Elab.async false
set_option linter.all false
set_option maxRecDepth 100000
namespace L2
open PySem PySem.Spec PyProof.Rows
def SubIt (t:Bool) (h:Heap) (i l:Addr) (k:Nat) (xs:Array Value):Prop:=(t=false∧h.IsListIter i l k∧h.IsList l xs)∨(t=true∧h.IsTupleIter i l k∧h.IsTuple l xs)
theorem SubIt.ext {t:Bool} {h h':Heap} {i l c:Addr} {k:Nat} {xs:Array Value} (x:SubIt t h i l k xs) (hs:Heap.ExtBut c h h') (h1:i≠c) (h2:l≠c):SubIt t h' i l k xs:=by
  rcases x with ⟨ht,a,b⟩ | ⟨ht,a,b⟩
  · exact .inl ⟨ht,a.extBut hs h1,b.extBut hs h2⟩
  · exact .inr ⟨ht,a.extBut hs h1,b.extBut hs h2⟩
theorem SubIt.objs {t:Bool} {h:Heap} {i l:Addr} {k:Nat} {xs:Array Value} (x:SubIt t h i l k xs):(∃ o,h.get? i=some o∧∀ v,o.data≠.cell v)∧∃ o,h.get? l=some o:=by
  rcases x with ⟨_,⟨o,e,_,d⟩,⟨o',e',_⟩⟩ | ⟨_,⟨o,e,_,d⟩,⟨o',e',_⟩⟩
  · exact ⟨⟨o,e,fun v z=>by rw [d] at z;cases z⟩,⟨o',e'⟩⟩
  · exact ⟨⟨o,e,fun v z=>by rw [d] at z;cases z⟩,⟨o',e'⟩⟩
theorem SubIt.keep {t:Bool} {h h':Heap} {i l:Addr} {k:Nat} {xs:Array Value} (x:SubIt t h i l k xs) (k1:∀ o,h.get? i=some o→h'.get? i=some o) (k2:∀ o,h.get? l=some o→h'.get? l=some o):SubIt t h' i l k xs:=by
  rcases x with ⟨ht,a,b⟩ | ⟨ht,a,b⟩
  · exact .inl ⟨ht,a.at k1,b.at k2⟩
  · exact .inr ⟨ht,a.at k1,b.at k2⟩
section
variable {prog:Program} {w:World} {A:Around} {E:Value→Shared→Prop} {s:Shared}
theorem sub_next {t:Bool} {i l:Addr} {k:Nat} {xs:Array Value} {x:Value} {Q:Value→Shared→Prop} (hs:SubIt t s.heap i l k xs) (hx:xs[k]? = some x) (hil:l≠i)
    (hQ:∀ h',SubIt t h' i l (k+1) xs→Heap.SameBut i s.heap h'→Q x { s with heap:=h' }):wpAny (model prog w) A (Builtin.SmallTypes.nextOf (.ref i)) Q E s:=by
  rcases hs with ⟨ht,a,b⟩ | ⟨ht,a,b⟩
  · exact wpAny_nextOf_list_item a b hx fun h' a' sb=>hQ h' (.inl ⟨ht,a',b.extBut sb.extBut hil⟩) sb
  · obtain ⟨o,ho,hc,hd⟩:=id a
    obtain ⟨ol,hol,hcl,nl,hdl⟩:=id b
    unfold Builtin.SmallTypes.nextOf
    refine wpAny_bind (wpAny_callSpecial?_slot (name:=Str.ofString "__next__") a.typeIs F.slot_tuple_iterator_next (wpAny_call_entry F.slot_tuple_iterator_next a.typeIs F.entry_tuple_iterator_next ?_ (F.args_tuple_iterator_next_1 _)))
    show wpAny _ _ (field (.ref i) 0 >>= _) _ _ s
    refine wpAny_bind (wpAny_field ho hd (x:=.ref l) rfl ?_);show wpAny _ _ (if (Value.ref l==Value.none)=true then _ else _) _ _ s
    rw [if_neg (show ¬ ((Value.ref l==Value.none)=true) from fun z=>Bool.false_ne_true z)];show wpAny _ _ (field (.ref i) 1 >>= _) _ _ s
    refine wpAny_bind (wpAny_field ho hd (x:=.int k 0) rfl ?_);show wpAny _ _ (seqItems? (.ref l) >>= _) _ _ s
    refine wpAny_bind (wpAny_seqItems hol hdl ?_);simp only [Int.toNat_natCast,hx]
    refine wpAny_bind (wpAny_setField ho hd (by simp) (wpAny_pure ⟨x,rfl,wpAny_pure (hQ _ (.inr ⟨ht,?_,b.extBut (Heap.SameBut.update ..).extBut hil⟩) (Heap.SameBut.update ..))⟩))
    exact ⟨_,Heap.get?_update_self _ ho (Obj.isFreed_of_fields (Obj.data_mapFields hd _)),(Obj.cls_mapFields ..).trans hc,by rw [Obj.data_mapFields hd];simp [rawInt]⟩
theorem sub_end {t:Bool} {i l:Addr} {k:Nat} {xs:Array Value} {Q:Value→Shared→Prop} (hh:A.handled=none) (hs:SubIt t s.heap i l k xs) (hx:xs[k]? = none)
    (hE:∀ h' e,Heap.ExtBut i s.heap h'→(∃ o,h'.get? e=some o∧o.cls = .type "StopIteration")→E (.ref e) { s with heap:=h' }):wpAny (model prog w) A (Builtin.SmallTypes.nextOf (.ref i)) Q E s:=by
  rcases hs with ⟨ht,a,b⟩ | ⟨ht,a,b⟩
  · exact wpAny_nextOf_list_end hh a b hx hE
  · obtain ⟨o,ho,hc,hd⟩:=id a
    obtain ⟨ol,hol,hcl,nl,hdl⟩:=id b
    unfold Builtin.SmallTypes.nextOf
    refine wpAny_bind (wpAny_callSpecial?_slot (name:=Str.ofString "__next__") a.typeIs F.slot_tuple_iterator_next (wpAny_call_entry F.slot_tuple_iterator_next a.typeIs F.entry_tuple_iterator_next ?_ (F.args_tuple_iterator_next_1 _)))
    show wpAny _ _ (field (.ref i) 0 >>= _) _ _ s
    refine wpAny_bind (wpAny_field ho hd (x:=.ref l) rfl ?_);show wpAny _ _ (if (Value.ref l==Value.none)=true then _ else _) _ _ s
    rw [if_neg (show ¬ ((Value.ref l==Value.none)=true) from fun z=>Bool.false_ne_true z)];show wpAny _ _ (field (.ref i) 1 >>= _) _ _ s
    refine wpAny_bind (wpAny_field ho hd (x:=.int k 0) rfl ?_);show wpAny _ _ (seqItems? (.ref l) >>= _) _ _ s
    refine wpAny_bind (wpAny_seqItems hol hdl ?_);simp only [Int.toNat_natCast,hx]
    refine wpAny_bind (wpAny_rule (wpAny_bind (wpAny_setField ho hd (by simp) ?_)));show wpAny _ _ (newExc (.type "StopIteration") [] >>= _) _ _ _
    refine wpAny_bind ?_;simp only [newExc,newTuple]
    refine wpAny_bind (wpAny_newObj_type ?_ (by size_fits));refine wpAny_bind (m:=firstArgMember _ _) (wpAny_of_eq (a:=Value.none) (by first | rfl | (simp only [firstArgMember];rfl)) ?_)
    refine wpAny_newObj_type ?_ (by size_fits);simp only [raiseNew]
    refine wpAny_bind (wpAny_handled ?_);first | rw [show A.in1.handled=none from hh] | rw [hh]
    refine wpAny_bind (wpAny_pure (wpAny_throw ?_));exact hE _ _ (((Heap.SameBut.update ..).extBut.push _).push _) ⟨_,Heap.get?_push_size _ rfl,rfl⟩
theorem zip_item {b1 b2:Bool} {z TI TO i1 i2 l1 l2:Addr} {k1 k2:Nat} {xs ys:Array Value} {x y a b:Value} {Q:Value→Shared→Prop} (D:ZipApart z TI TO i1 i2 l1 l2)
    (hz:IsZip s.heap z TI TO .none) (hTI:IsPair s.heap TI (.ref i1) (.ref i2)) (hTO:IsPair s.heap TO a b)
    (h1:SubIt b1 s.heap i1 l1 k1 xs) (h2:SubIt b2 s.heap i2 l2 k2 ys) (hx:xs[k1]? = some x) (hy:ys[k2]? = some y)
    (hQ:∀ h',IsZip h' z TI TO (rawInt s.heap.objs.size)→IsPair h' TO x y→SubIt b1 h' i1 l1 (k1+1) xs→SubIt b2 h' i2 l2 (k2+1) ys→IsPair h' s.heap.objs.size x y→h'.objs.size=s.heap.objs.size+1 →
      (∀ c o,c≠z→c≠TO→c≠i1→c≠i2→s.heap.get? c=some o→h'.get? c=some o)→Q (.ref s.heap.objs.size) { s with heap:=h' }) :
    wpAny (model prog w) A (Builtin.«zip.__next__» ⟨[.ref z],[]⟩) (fun fin s'=>∃ v,fin = .done (.ret v)∧Q v s') E s:=by
  show wpAny _ _ (field (.ref z) 2 >>= _) _ _ _
  refine wpAny_bind (wpAny_field hz rfl (x:=.bool false) rfl ?_);show wpAny _ _ (field (.ref z) 3 >>= _) _ _ _
  refine wpAny_bind (wpAny_field hz rfl (x:=.ref TI) rfl ?_);refine wpAny_bind (wpAny_seqItems hTI rfl ?_)
  show wpAny _ _ (Builtin.SmallTypes.ownedTupleIsFree (.ref z) >>= _) _ _ _;refine wpAny_bind ?_
  unfold Builtin.SmallTypes.ownedTupleIsFree;refine wpAny_bind (wpAny_field hz rfl (x:=.none) rfl (wpAny_pure ?_));simp only [if_true]
  refine wpAny_bind (wpAny_rule ?_);refine wpAny_bind (wpAny_field hz rfl (x:=.ref TO) rfl ?_)
  refine wpAny_bind (wpAny_setField_rec hz (by simp) fun g1 z1 s1=>?_)
  replace z1:IsZip g1 z TI TO .ellipsis:=z1
  refine wpAny_bind ?_;simp only [List.zipIdx_cons,List.zipIdx_nil,List.forIn_cons,List.forIn_nil]
  refine wpAny_bind (wpAny_bind (wpAny_onRaise ?_));show wpAny _ _ (Builtin.SmallTypes.nextOf (.ref i1) >>= _) _ _ _
  refine wpAny_bind (sub_next (h1.ext s1.extBut D.i1z D.l1z) hx D.l1i1 fun g2 p2 s2=>wpAny_pure ?_)
  have t2:IsPair g2 TO a b:=s2.extBut _ _ D.TOi1 (s1.extBut _ _ D.TOz hTO)
  refine wpAny_bind (wpAny_seqItems t2 rfl ?_);refine wpAny_bind (wpAny_updateSeq_pair t2 fun g3 t3 s3=>?_)
  replace t3:IsPair g3 TO x b:=t3
  refine wpAny_bind (wpAny_letGo (wpAny_pure ?_));refine wpAny_bind (wpAny_bind (wpAny_onRaise ?_))
  show wpAny _ _ (Builtin.SmallTypes.nextOf (.ref i2) >>= _) _ _ _
  refine wpAny_bind (sub_next (((h2.ext s1.extBut D.i2z D.l2z).ext s2.extBut D.i12.symm D.l2i1).ext s3.extBut D.TOi2.symm D.l2TO) hy D.l2i2 fun g4 p4 s4=>wpAny_pure ?_)
  have t4:IsPair g4 TO x b:=s4.extBut _ _ D.TOi2 t3
  refine wpAny_bind (wpAny_seqItems t4 rfl ?_);refine wpAny_bind (wpAny_updateSeq_pair t4 fun g5 t5 s5=>?_)
  replace t5:IsPair g5 TO x y:=t5
  refine wpAny_bind (wpAny_letGo (wpAny_pure (wpAny_pure ?_)));refine wpAny_bind (wpAny_seqItems t5 rfl ?_);refine wpAny_bind (wpAny_newTuple ?_)
  have hsz:g5.objs.size=s.heap.objs.size:=by rw [s5.1,s4.1,s3.1,s2.1,s1.1]
  have z5:IsZip g5 z TI TO .ellipsis:=s5.extBut _ _ D.TOz.symm (s4.extBut _ _ D.i2z.symm (s3.extBut _ _ D.TOz.symm (s2.extBut _ _ D.i1z.symm z1)))
  have k5:∀ c o,c≠z→c≠TO→c≠i1→c≠i2→s.heap.get? c=some o→g5.get? c=some o:=fun c o c1 c2 c3 c4 e=>s5.extBut _ _ c2 (s4.extBut _ _ c4 (s3.extBut _ _ c2 (s2.extBut _ _ c3 (s1.extBut _ _ c1 e))))
  have p1:SubIt b1 g5 i1 l1 (k1+1) xs:=((p2.ext s3.extBut D.TOi1.symm D.l1TO).ext s4.extBut D.i12 D.l1i2).ext s5.extBut D.TOi1.symm D.l1TO
  have p2':SubIt b2 g5 i2 l2 (k2+1) ys:=p4.ext s5.extBut D.TOi2.symm D.l2TO
  show wpAny _ _ (Builtin.SmallTypes.ownedTupleHandOut (.ref z) (.ref g5.objs.size) >>= _) _ _ _
  refine wpAny_bind ?_;unfold Builtin.SmallTypes.ownedTupleHandOut
  have z6:IsZip (g5.push { cls:=.type "tuple", data:=.seq #[x,y] }) z TI TO .ellipsis:=Heap.get?_push_of_some _ z5
  refine wpAny_bind (wpAny_setField_rec z6 (by simp) fun g7 z7 s7=>?_)
  replace z7:IsZip g7 z TI TO (rawInt g5.objs.size):=z7
  refine wpAny_setField_rec z7 (by simp) fun g8 z8 s8=>?_
  replace z8:IsZip g8 z TI TO (rawInt g5.objs.size):=z8
  have up:∀ c o,c≠z→g5.get? c=some o→g8.get? c=some o:=fun c o c1 e=>s8.extBut _ _ c1 (s7.extBut _ _ c1 (Heap.get?_push_of_some _ e))
  have zlt:z<g5.objs.size:=Heap.lt_size z5
  have t8:IsPair g8 g5.objs.size x y:=s8.extBut _ _ (Nat.ne_of_gt zlt) (s7.extBut _ _ (Nat.ne_of_gt zlt) (Heap.get?_push_size _ rfl))
  have n8:g8.objs.size=g5.objs.size+1:=by rw [s8.1,s7.1,Heap.size_push]
  rw [hsz] at z8 t8 n8
  refine wpAny_pure ⟨_,rfl,?_⟩;show Q (.ref g5.objs.size) _
  rw [hsz]
  exact hQ g8 z8 (up _ _ D.TOz t5) (p1.keep (fun o e=>up _ o D.i1z e) fun o e=>up _ o D.l1z e) (p2'.keep (fun o e=>up _ o D.i2z e) fun o e=>up _ o D.l2z e) t8 n8 fun c o c1 c2 c3 c4 e=>up c o c1 (k5 c o c1 c2 c3 c4 e)
theorem zip_stop {b1 b2:Bool} {z TI TO i1 i2 l1 l2:Addr} {k1 k2:Nat} {xs ys:Array Value} {a b:Value} {Q:Fin→Shared→Prop} (hh:A.handled=none) (D:ZipApart z TI TO i1 i2 l1 l2)
    (hz:IsZip s.heap z TI TO .none) (hTI:IsPair s.heap TI (.ref i1) (.ref i2)) (hTO:IsPair s.heap TO a b)
    (h1:SubIt b1 s.heap i1 l1 k1 xs) (h2:SubIt b2 s.heap i2 l2 k2 ys) (hend:xs[k1]? = none∨ys[k2]? = none)
    (hE:∀ h' e,(∀ c o,c≠z→c≠TO→c≠i1→c≠i2→s.heap.get? c=some o→h'.get? c=some o)→(∃ o,h'.get? e=some o∧o.cls = .type "StopIteration")→E (.ref e) { s with heap:=h' }) :
    wpAny (model prog w) A (Builtin.«zip.__next__» ⟨[.ref z],[]⟩) Q E s:=by
  show wpAny _ _ (field (.ref z) 2 >>= _) _ _ _
  refine wpAny_bind (wpAny_field hz rfl (x:=.bool false) rfl ?_);show wpAny _ _ (field (.ref z) 3 >>= _) _ _ _
  refine wpAny_bind (wpAny_field hz rfl (x:=.ref TI) rfl ?_);refine wpAny_bind (wpAny_seqItems hTI rfl ?_)
  show wpAny _ _ (Builtin.SmallTypes.ownedTupleIsFree (.ref z) >>= _) _ _ _;refine wpAny_bind ?_
  unfold Builtin.SmallTypes.ownedTupleIsFree;refine wpAny_bind (wpAny_field hz rfl (x:=.none) rfl (wpAny_pure ?_));simp only [if_true]
  refine wpAny_bind (wpAny_rule ?_);refine wpAny_bind (wpAny_field hz rfl (x:=.ref TO) rfl ?_)
  refine wpAny_bind (wpAny_setField_rec hz (by simp) fun g1 z1 s1=>?_)
  replace z1:IsZip g1 z TI TO .ellipsis:=z1
  refine wpAny_bind ?_;simp only [List.zipIdx_cons,List.zipIdx_nil,List.forIn_cons,List.forIn_nil]
  refine wpAny_bind (wpAny_bind (wpAny_onRaise ?_));show wpAny _ _ (Builtin.SmallTypes.nextOf (.ref i1) >>= _) _ _ _
  cases hx:xs[k1]? with
  | none =>
    refine wpAny_bind (sub_end hh (h1.ext s1.extBut D.i1z D.l1z) hx fun g2 e s2 he=>?_)
    obtain ⟨oe,hoe,hce⟩:=he
    have z2:IsZip g2 z TI TO .ellipsis:=s2 _ _ D.i1z.symm z1
    have hez:e≠z:=fun q=>by subst q;rw [z2] at hoe;cases hoe;simp at hce
    refine wpAny_setField_rec z2 (by simp) fun g3 _ s3=>hE g3 e (fun c o c1 _ c3 _ q=>s3.extBut _ _ c1 (s2 _ _ c3 (s1.extBut _ _ c1 q))) ⟨oe,s3.extBut _ _ hez hoe,hce⟩
  | some x =>
    have hy:ys[k2]? = none:=by rcases hend with q | q;rw [hx] at q;cases q;exact q
    refine wpAny_bind (sub_next (h1.ext s1.extBut D.i1z D.l1z) hx D.l1i1 fun g2 p2 s2=>wpAny_pure ?_)
    have t2:IsPair g2 TO a b:=s2.extBut _ _ D.TOi1 (s1.extBut _ _ D.TOz hTO)
    refine wpAny_bind (wpAny_seqItems t2 rfl ?_);refine wpAny_bind (wpAny_updateSeq_pair t2 fun g3 t3 s3=>?_)
    refine wpAny_bind (wpAny_letGo (wpAny_pure ?_));refine wpAny_bind (wpAny_bind (wpAny_onRaise ?_))
    show wpAny _ _ (Builtin.SmallTypes.nextOf (.ref i2) >>= _) _ _ _
    refine wpAny_bind (sub_end hh (((h2.ext s1.extBut D.i2z D.l2z).ext s2.extBut D.i12.symm D.l2i1).ext s3.extBut D.TOi2.symm D.l2TO) hy fun g4 e s4 he=>?_)
    obtain ⟨oe,hoe,hce⟩:=he
    have z4:IsZip g4 z TI TO .ellipsis:=s4 _ _ D.i2z.symm (s3.extBut _ _ D.TOz.symm (s2.extBut _ _ D.i1z.symm z1))
    have hez:e≠z:=fun q=>by subst q;rw [z4] at hoe;cases hoe;simp at hce
    refine wpAny_setField_rec z4 (by simp) fun g5 _ s5=>hE g5 e (fun c o c1 c2 c3 c4 q=>s5.extBut _ _ c1 (s4 _ _ c4 (s3.extBut _ _ c2 (s2.extBut _ _ c3 (s1.extBut _ _ c1 q))))) ⟨oe,s5.extBut _ _ hez hoe,hce⟩
theorem next_zip_item {b1 b2:Bool} {z TI TO i1 i2 l1 l2:Addr} {k1 k2:Nat} {xs ys:Array Value} {x y a b:Value} {Q:Option Value→Shared→Prop} (D:ZipApart z TI TO i1 i2 l1 l2)
    (hz:IsZip s.heap z TI TO .none) (hTI:IsPair s.heap TI (.ref i1) (.ref i2)) (hTO:IsPair s.heap TO a b) (h1:SubIt b1 s.heap i1 l1 k1 xs) (h2:SubIt b2 s.heap i2 l2 k2 ys) (hx:xs[k1]? = some x) (hy:ys[k2]? = some y)
    (hQ:∀ h',IsZip h' z TI TO (rawInt s.heap.objs.size)→IsPair h' TO x y→SubIt b1 h' i1 l1 (k1+1) xs→SubIt b2 h' i2 l2 (k2+1) ys→IsPair h' s.heap.objs.size x y→h'.objs.size=s.heap.objs.size+1 →
      (∀ c o,c≠z→c≠TO→c≠i1→c≠i2→s.heap.get? c=some o→h'.get? c=some o)→Q (some (.ref s.heap.objs.size)) { s with heap:=h' }):wpAny (model prog w) A (pyNext (.ref z)) Q E s:=by
  have hT:s.TypeIs (.ref z) "zip" := ⟨_,hz,rfl⟩
  unfold pyNext
  exact wpAny_bind (wpAny_attempt (wpAny_callSpecial?_slot (name:=Str.ofString "__next__") hT F.slot_zip_next (wpAny_call_entry F.slot_zip_next hT F.entry_zip_next (zip_item D hz hTI hTO h1 h2 hx hy fun h' a1 a2 a3 a4 a5 a6 a7=>wpAny_pure (hQ h' a1 a2 a3 a4 a5 a6 a7)) (F.args_zip_next_1 _))))
theorem next_zip_end {b1 b2:Bool} {z TI TO i1 i2 l1 l2:Addr} {k1 k2:Nat} {xs ys:Array Value} {a b:Value} {Q:Option Value→Shared→Prop} (hh:A.handled=none) (D:ZipApart z TI TO i1 i2 l1 l2)
    (hz:IsZip s.heap z TI TO .none) (hTI:IsPair s.heap TI (.ref i1) (.ref i2)) (hTO:IsPair s.heap TO a b) (h1:SubIt b1 s.heap i1 l1 k1 xs) (h2:SubIt b2 s.heap i2 l2 k2 ys) (hend:xs[k1]? = none∨ys[k2]? = none)
    (hQ:∀ h',(∀ c o,c≠z→c≠TO→c≠i1→c≠i2→s.heap.get? c=some o→h'.get? c=some o)→Q none { s with heap:=h' }):wpAny (model prog w) A (pyNext (.ref z)) Q E s:=by
  have hT:s.TypeIs (.ref z) "zip" := ⟨_,hz,rfl⟩
  unfold pyNext
  refine wpAny_bind (wpAny_attempt (wpAny_callSpecial?_slot (name:=Str.ofString "__next__") hT F.slot_zip_next (wpAny_call_entry F.slot_zip_next hT F.entry_zip_next (zip_stop hh D hz hTI hTO h1 h2 hend fun h' e hk he=>?_) (F.args_zip_next_1 _))))
  obtain ⟨o,ho,hc⟩:=he
  exact wpAny_bind (wpAny_isInstance (T := "StopIteration") (b:=true) ⟨o,ho,hc⟩ isSubtype_stop (wpAny_pure (hQ _ hk)))
abbrev itObj (c:String) (l:Addr):Obj:={ cls:=.type c,data:=.fields #[.ref l,.int 0 0] }
abbrev zH1 (h:Heap) (c1:String) (l1:Addr):Heap:=h.push (itObj c1 l1)
abbrev zH2 (h:Heap) (c1 c2:String) (l1 l2:Addr):Heap:=(zH1 h c1 l1).push (itObj c2 l2)
abbrev zH3 (h:Heap) (c1 c2:String) (l1 l2:Addr):Heap:=(zH2 h c1 c2 l1 l2).push { cls:=.type "tuple", data:=.seq #[.ref h.objs.size,.ref (zH1 h c1 l1).objs.size] }
abbrev zH4 (h:Heap) (c1 c2:String) (l1 l2:Addr):Heap:=(zH3 h c1 c2 l1 l2).push { cls:=.type "tuple", data:=.seq #[.none,.none] }
abbrev zH5 (h:Heap) (c1 c2:String) (l1 l2:Addr):Heap:=(zH4 h c1 c2 l1 l2).push { cls:=.type "zip", data:=.fields #[.none,.bool false,.bool false,.ref (zH2 h c1 c2 l1 l2).objs.size,.ref (zH3 h c1 c2 l1 l2).objs.size] }
def SeqC (h:Heap) (c:String) (l:Addr) (xs:Array Value):Prop:=(c = "list_iterator" ∧ h.IsList l xs)∨(c = "tuple_iterator" ∧ h.IsTuple l xs)
theorem SeqC.push {h:Heap} {c:String} {l:Addr} {xs:Array Value} (x:SeqC h c l xs) (o:Obj):SeqC (h.push o) c l xs:=by
  rcases x with ⟨e,a⟩ | ⟨e,⟨ob,h1,h2⟩⟩
  · exact .inl ⟨e,a.push o⟩
  · exact .inr ⟨e,⟨ob,Heap.get?_push_of_some _ h1,h2⟩⟩
theorem iter_seqC {c:String} {l:Addr} {xs:Array Value} {Q:Value→Shared→Prop} (hl:SeqC s.heap c l xs) (hQ:Q (.ref s.heap.objs.size) { s with heap:=s.heap.push (itObj c l) }):wpAny (model prog w) A (pyIter (.ref l)) Q E s:=by
  rcases hl with ⟨rfl,a⟩ | ⟨rfl,a⟩
  · exact wpAny_pyIter_list a hQ
  · exact wpAny_pyIter_tuple a hQ
theorem meets_zip (c1 c2:String) (l1 l2:Addr) (xs ys:Array Value) :
    Meets (Builtin.«zip.__new__» ⟨[.type "zip", .ref l1,.ref l2],[]⟩) (fun _ R s=>SeqC s.heap c1 l1 xs∧SeqC s.heap c2 l2 ys ∧
      R (.ok (.ret (.ref (zH4 s.heap c1 c2 l1 l2).objs.size))) { s with heap:=zH5 s.heap c1 c2 l1 l2 }) :=
  .of_wp fun prog w A R s h=>by
    obtain ⟨hp,g,d,tk,os⟩:=s;obtain ⟨hl1,hl2,h⟩:=h
    have hsub:=sub_zip
    have L1:SeqC (Shared.heap ⟨hp,g,d,tk,os⟩) c1 l1 xs:=hl1
    have L2:SeqC (Shared.heap ⟨hp.push (itObj c1 l1),g,d,tk,os⟩) c2 l2 ys:=SeqC.push hl2 _
    wp_walk using iter_seqC L1,iter_seqC L2
    exact ⟨_,rfl,h⟩
end
end L2
set_option Elab.async false
set_option linter.all false
set_option maxRecDepth 100000
namespace L2
open PySem PySem.Spec PyProof.Rows
section
variable {prog:Program} {w:World} {A:Around} {E:Value→Shared→Prop} {s:Shared}
theorem call_zipC {c1 c2:String} {l1 l2:Addr} {xs ys:Array Value} {Q:Value→Shared→Prop} (hl1:SeqC s.heap c1 l1 xs) (hl2:SeqC s.heap c2 l2 ys)
    (h:∀ h',IsZip h' (s.heap.objs.size+4) (s.heap.objs.size+2) (s.heap.objs.size+3) .none→IsPair h' (s.heap.objs.size+2) (.ref s.heap.objs.size) (.ref (s.heap.objs.size+1)) →
      IsPair h' (s.heap.objs.size+3) .none .none→h'.get? s.heap.objs.size=some (itObj c1 l1)→h'.get? (s.heap.objs.size+1)=some (itObj c2 l2)→h'.objs.size=s.heap.objs.size+5 →
      (∀ c o,s.heap.get? c=some o→h'.get? c=some o)→Q (.ref (s.heap.objs.size+4)) { s with heap:=h' }) :
    wpAny (model prog w) A (call (.type "zip") [.ref l1,.ref l2]) Q E s:=by
  refine callType_new F.called_zip (by decide) (F.typeCall_zip_2 _ _) (F.newCall_zip_2 _ _) (fun obj=>F.args_object_init_3 obj _ _) F.entry_zip_new (meets_zip c1 c2 l1 l2 xs ys) ⟨hl1,hl2,?_⟩
  have z1:(zH1 s.heap c1 l1).objs.size=s.heap.objs.size+1:=Heap.size_push ..
  have z2:(zH2 s.heap c1 c2 l1 l2).objs.size=s.heap.objs.size+2:=by rw [Heap.size_push,z1]
  have z3:(zH3 s.heap c1 c2 l1 l2).objs.size=s.heap.objs.size+3:=by rw [Heap.size_push,z2]
  have z4:(zH4 s.heap c1 c2 l1 l2).objs.size=s.heap.objs.size+4:=by rw [Heap.size_push,z3]
  have z5:(zH5 s.heap c1 c2 l1 l2).objs.size=s.heap.objs.size+5:=by rw [Heap.size_push,z4]
  have g5:(zH5 s.heap c1 c2 l1 l2).get? (zH4 s.heap c1 c2 l1 l2).objs.size=some _:=Heap.get?_push_size _ rfl
  have g4:(zH5 s.heap c1 c2 l1 l2).get? (zH3 s.heap c1 c2 l1 l2).objs.size=some _:=Heap.get?_push_of_some _ (Heap.get?_push_size _ rfl)
  have g3:(zH5 s.heap c1 c2 l1 l2).get? (zH2 s.heap c1 c2 l1 l2).objs.size=some _:=Heap.get?_push_of_some _ (Heap.get?_push_of_some _ (Heap.get?_push_size _ rfl))
  have g2:(zH5 s.heap c1 c2 l1 l2).get? (zH1 s.heap c1 l1).objs.size=some _:=Heap.get?_push_of_some _ (Heap.get?_push_of_some _ (Heap.get?_push_of_some _ (Heap.get?_push_size _ rfl)))
  have g1:(zH5 s.heap c1 c2 l1 l2).get? s.heap.objs.size=some _:=Heap.get?_push_of_some _ (Heap.get?_push_of_some _ (Heap.get?_push_of_some _ (Heap.get?_push_of_some _ (Heap.get?_push_size _ rfl))))
  show _∧_
  rw [z2,z3,z4] at g5
  rw [z1,z2] at g3
  rw [z3] at g4
  rw [z1] at g2
  rw [z4]
  exact ⟨⟨_,g5,rfl⟩,h _ g5 g3 g4 g1 g2 z5 fun c o q=>Heap.get?_push_of_some _ (Heap.get?_push_of_some _ (Heap.get?_push_of_some _ (Heap.get?_push_of_some _ (Heap.get?_push_of_some _ q))))⟩
end
section
variable {X:Cx} {pins:List (Addr × Obj)} {σ:St} {H:Hp} {s:Shared} {h':Heap}
theorem Inv.turnedNew {chs:List Addr} {o:HO} {t':Nat} (I:Inv X pins σ H s) (hch:∀ b∈chs,FpOk X pins H b) (k:∀ b u,b∉chs→s.heap.get? b=some u→h'.get? b=some u)
    (new:ObjOk X.prog X.w (upd H s.heap.objs.size o) h' s.heap.objs.size o):Inv X pins σ (upd H s.heap.objs.size o) { s with heap:=h',toks:=t' }:=by
  have hn:=I.hok.fresh (Nat.le_refl s.heap.objs.size)
  have nch:∀ b u,H b=some u→b∉chs:=fun b u e z=>by rw [(hch b z).1] at e;cases e
  have lt:∀ b u,s.heap.get? b=some u→b≠s.heap.objs.size:=fun b u e=>Nat.ne_of_lt (Heap.lt_size e)
  refine I.step (g':=s.gens) (d':=s.drawn) (ch:=chs) (fun b hb=>⟨(hch b hb).2.2.2.1,(hch b hb).2.1,(hch b hb).2.2.2.2.1,(hch b hb).2.2.2.2.2⟩) (fun b u _ _ hc e _=>k b u hc e) (fun b u _ _ hc e _=>⟨u.slots,k b u hc e⟩)
    (fun b u _ e n=>by rw [upd_ne (lt b u e)];exact n) (fun b u hc e=>⟨u,k b u hc e⟩) (fun b xs e=>by rw [upd_ne (ne_of_none e hn)];exact e) (fun b u xs e=>by rw [upd_ne (ne_of_none e hn)];exact e)
    (fun b ps e=>⟨#[],by rw [upd_ne (ne_of_none e hn),e];simp⟩) (fun m hm=>?_) (fun b u e=>?_) I.bare
  · obtain ⟨ob,es,ep,ho,r⟩:=hm
    exact ⟨ob,es,ep,k _ ob (fun z=>(hch _ z).2.1 rfl) ho,r⟩
  · by_cases hb:b=s.heap.objs.size
    · subst hb
      rw [upd_same] at e;cases e
      exact new
    · rw [upd_ne hb] at e
      refine (I.hok b u e).stay (fun c v hc q=>k c v ?_ q) (fun c q=>by rw [upd_ne (ne_of_none q hn)];exact q) (fun c xs q=>by rw [upd_ne (ne_of_none q hn)];exact q) fun c ob uu q=>by rw [upd_ne (ne_of_none q hn)];exact q
      rcases hc with z | z
      · rw [z];exact nch b u e
      · exact nch c _ z
theorem Inv.turnedL {chs:List Addr} {t':Nat} (I:Inv X pins σ H s) (hch:∀ b∈chs,FpOk X pins H b) (k:∀ b u,b∉chs→s.heap.get? b=some u→h'.get? b=some u):Inv X pins σ H { s with heap:=h',toks:=t' }:=by
  have nch:∀ b u,H b=some u→b∉chs:=fun b u e z=>by rw [(hch b z).1] at e;cases e
  refine I.step (g':=s.gens) (d':=s.drawn) (ch:=chs) (fun b hb=>⟨(hch b hb).2.2.2.1,(hch b hb).2.1,(hch b hb).2.2.2.2.1,(hch b hb).2.2.2.2.2⟩) (fun b u _ _ hc e _=>k b u hc e) (fun b u _ _ hc e _=>⟨u.slots,k b u hc e⟩)
    (fun b u _ e n=>n) (fun b u hc e=>⟨u,k b u hc e⟩) (fun b xs e=>e) (fun b u xs e=>e) (fun b ps e=>⟨#[],by rw [e];simp⟩) (fun m hm=>?_) (fun b u e=>?_) I.bare
  · obtain ⟨ob,es,ep,ho,r⟩:=hm
    exact ⟨ob,es,ep,k _ ob (fun z=>(hch _ z).2.1 rfl) ho,r⟩
  · refine (I.hok b u e).stay (fun c v hc q=>k c v ?_ q) (fun c q=>q) (fun c xs q=>q) fun _ _ _ q=>q
    rcases hc with z | z
    · rw [z];exact nch b u e
    · exact nch c _ z
end
inductive Src where
  | L (a:Addr) | T (a:Addr)
def Src.at:Src→Addr
  | .L a=>a
  | .T a=>a
def Src.b:Src→Bool
  | .L _=>false
  | .T _=>true
def Src.cls:Src→String
  | .L _ => "list_iterator"
  | .T _ => "tuple_iterator"
def SqS (K:PySem.W.Frag) (H:Hp):Src→List V→Prop
  | .L a,xs=>SqL K H a xs
  | .T a,xs=>SqT K H a xs
def itAt (h:Heap) (u:Src) (i:Addr) (k:Nat):Prop:=match u with
  | .L a=>h.IsListIter i a k
  | .T a=>h.IsTupleIter i a k
theorem itAt_obj {h:Heap} {u:Src} {i:Addr} {k:Nat} (x:itAt h u i k):∃ o,h.get? i=some o∧∀ v,o.data≠.cell v:=by
  cases u with
  | L a=>obtain ⟨o,e,c,d⟩:=x;exact ⟨o,e,fun v z=>by rw [d] at z;cases z⟩
  | T a=>obtain ⟨o,e,c,d⟩:=x;exact ⟨o,e,fun v z=>by rw [d] at z;cases z⟩
theorem itAt_keep {h h':Heap} {u:Src} {i:Addr} {k:Nat} (x:itAt h u i k) (kp:∀ o,h.get? i=some o→h'.get? i=some o):itAt h' u i k:=by
  cases u with
  | L a=>exact Heap.IsListIter.at x kp
  | T a=>exact Heap.IsTupleIter.at x kp
theorem itAt_new {h:Heap} {u:Src} {i:Addr} (e:h.get? i=some (itObj u.cls u.at)):itAt h u i 0:=by
  cases u with
  | L a=>exact ⟨_,e,rfl,rfl⟩
  | T a=>exact ⟨_,e,rfl,rfl⟩
section
variable {X:Cx} {pins:List (Addr × Obj)} {σ:St} {H:Hp} {s:Shared}
theorem Inv.src {u:Src} {xs:List V} (I:Inv X pins σ H s) (h:SqS X.K H u xs):∃ its:List Value,Vals xs its∧SeqC s.heap u.cls u.at its.toArray∧xs.length≤sizeLine∧u.at<s.heap.objs.size∧∀ (i:Addr) (k:Nat),itAt s.heap u i k→SubIt u.b s.heap i u.at k its.toArray:=by
  cases u with
  | L a =>
    obtain ⟨its,r,p,hz⟩:=I.list h
    obtain ⟨o,ho,_⟩:=p.isList
    exact ⟨its,r,.inl ⟨rfl,p.isList⟩,hz,Heap.lt_size ho,fun i k it=>.inl ⟨rfl,it,p.isList⟩⟩
  | T a =>
    obtain ⟨its,r,p,hz⟩:=I.tuple h
    obtain ⟨o,ho,_⟩:=id p
    exact ⟨its,r,.inr ⟨rfl,p⟩,hz,Heap.lt_size ho,fun i k it=>.inr ⟨rfl,it,p⟩⟩
theorem Inv.src_inj {u:Src} {xs ys:List V} (I:Inv X pins σ H s) (h:SqS X.K H u xs) (h':SqS X.K H u ys):xs=ys:=by
  cases u with
  | L a=>exact I.list_inj h h'
  | T a=>exact I.tuple_inj h h'
theorem SubIt.itAt {h:Heap} {u:Src} {i:Addr} {k:Nat} {xs:Array Value} (x:SubIt u.b h i u.at k xs):itAt h u i k:=by
  cases u with
  | L a =>
    rcases x with ⟨_,a',_⟩ | ⟨z,_⟩
    · exact a'
    · cases z
  | T a =>
    rcases x with ⟨z,_⟩ | ⟨_,a',_⟩
    · cases z
    · exact a'
end
def Itz (K:PySem.W.Frag) (u v:Src):It :=
  ⟨fun i H => ∃ xs ys x y, SqS K H u xs ∧ SqS K H v ys ∧ xs[i]? = some x ∧ ys[i]? = some y,
   fun i H t H' => ∃ p x y, H p = none ∧ t = .ref p ∧ H' = upd H p (.tup [x, y]) ∧ (∀ xs, SqS K H u xs → xs[i]? = some x) ∧ (∀ ys, SqS K H v ys → ys[i]? = some y),
   fun i H=>∃ xs ys,SqS K H u xs∧SqS K H v ys∧(xs.length≤i∨ys.length≤i)⟩
theorem turn_zip {P:Program} {w:World} {K:PySem.W.Frag} {elts:List Expr} {k:Nat} {pos:Pos} (u v:Src) (z TI TO i1 i2:Addr) (D:ZipApart z TI TO i1 i2 u.at v.at) :
    Turn P w K (.Tuple elts k pos) (Itz K u v) [z,TI,TO,i1,i2] z (fun i h=>IsZip h z TI TO .none∧IsPair h TI (.ref i1) (.ref i2)∧(∃ a b,IsPair h TO a b)∧itAt h u i1 i∧itAt h v i2 i) where
  mem:=by simp
  obj:=fun i h ⟨hz,hTI,⟨a,b,hTO⟩,h1,h2⟩ c hc=>by
    simp only [List.mem_cons,List.not_mem_nil,or_false] at hc
    rcases hc with rfl | rfl | rfl | rfl | rfl
    · exact ⟨_,hz,fun v z=>nomatch z⟩
    · exact ⟨_,hTI,fun v z=>nomatch z⟩
    · exact ⟨_,hTO,fun v z=>nomatch z⟩
    · exact itAt_obj h1
    · exact itAt_obj h2
  keep:=fun i h h' ⟨hz,hTI,⟨a,b,hTO⟩,h1,h2⟩ kp =>
    ⟨kp z (by simp) _ hz,kp TI (by simp) _ hTI,⟨a,b,kp TO (by simp) _ hTO⟩,itAt_keep h1 fun o e=>kp i1 (by simp) o e,itAt_keep h2 fun o e=>kp i2 (by simp) o e⟩
  item:=by
    intro X hP hw hK hc i pins s σ H E I hf ⟨hz,hTI,⟨a,b,hTO⟩,h1,h2⟩ hg
    subst hP hw hK
    obtain ⟨xs,ys,x,y,hu,hv,hx,hy⟩:=hg
    obtain ⟨its,r1,_,_,lt1,s1⟩:=I.src hu
    obtain ⟨its2,r2,_,_,lt2,s2⟩:=I.src hv
    obtain ⟨ux,hux,rx⟩:=r1.get hx
    obtain ⟨uy,huy,ry⟩:=r2.get hy
    refine next_zip_item D hz hTI hTO (s1 _ _ h1) (s2 _ _ h2) (x:=ux) (y:=uy) (by simpa using hux) (by simpa using huy) fun h' a1 a2 a3 a4 a5 a6 a7=>⟨_,rfl,?_⟩
    have hch:∀ b∈[z,TO,i1,i2],FpOk X pins H b:=fun b hb=>hf b (by
      simp only [List.mem_cons,List.not_mem_nil,or_false] at hb ⊢
      rcases hb with rfl | rfl | rfl | rfl<;>simp)
    have k':∀ b u,b∉[z,TO,i1,i2]→s.heap.get? b=some u→h'.get? b=some u:=fun b u hb e=>a7 b u (fun q=>hb (by simp [q])) (fun q=>hb (by simp [q])) (fun q=>hb (by simp [q])) (fun q=>hb (by simp [q])) e
    have I1:Inv X pins σ (upd H s.heap.objs.size (.tup [x,y])) { s with heap:=h' }:=I.turnedNew (t':=s.toks) hch k' ⟨by show 2≤sizeLine;decide,[ux,uy],.cons rx (.cons ry .nil),⟨_,a5,rfl,_,rfl⟩⟩
    refine wpAny_letOwnedTupleGo_zip (s:={ s with heap:=h' }) a1 fun h2' hz' hs'=>?_
    have hn:=I.hok.fresh (Nat.le_refl s.heap.objs.size)
    have ltf:∀ b∈[z,TI,TO,i1,i2],b≠s.heap.objs.size:=fun b hb=>by
      simp only [List.mem_cons,List.not_mem_nil,or_false] at hb
      rcases hb with rfl | rfl | rfl | rfl | rfl
      · exact Nat.ne_of_lt (Heap.lt_size hz)
      · exact Nat.ne_of_lt (Heap.lt_size hTI)
      · exact Nat.ne_of_lt (Heap.lt_size hTO)
      · obtain ⟨o,e,_⟩:=itAt_obj h1;exact Nat.ne_of_lt (Heap.lt_size e)
      · obtain ⟨o,e,_⟩:=itAt_obj h2;exact Nat.ne_of_lt (Heap.lt_size e)
    obtain ⟨f0,f1,f2,f3,f4,f5⟩:=hf z (by simp)
    have I2:Inv X pins σ (upd H s.heap.objs.size (.tup [x,y])) { s with heap:=h2' }:=I1.turned (t':=s.toks) (fun b o hb e=>hs'.extBut b o hb e) (by rw [upd_ne (ltf z (by simp))];exact f0) f1 f3 f4 f5
    refine ⟨.ref s.heap.objs.size,_,I2,rfl,⟨s.heap.objs.size,x,y,hn,rfl,rfl,fun xs' h=>by rw [I.src_inj h hu];exact hx,fun ys' h=>by rw [I.src_inj h hv];exact hy⟩,?_,fun b hb=>by rw [upd_ne (ltf b hb)];exact (hf b hb).1⟩
    exact ⟨hz',hs'.extBut _ _ D.TIz (a7 _ _ D.TIz D.TITO D.TIi1 D.TIi2 hTI),⟨_,_,hs'.extBut _ _ D.TOz a2⟩,itAt_keep a3.itAt fun o e=>hs'.extBut _ _ D.i1z e,itAt_keep a4.itAt fun o e=>hs'.extBut _ _ D.i2z e⟩
  done:=by
    intro X hP hw hK hc i pins s σ H E I hf ⟨hz,hTI,⟨a,b,hTO⟩,h1,h2⟩ hg
    subst hP hw hK
    obtain ⟨xs,ys,hu,hv,hend⟩:=hg
    obtain ⟨its,r1,_,_,lt1,s1⟩:=I.src hu
    obtain ⟨its2,r2,_,_,lt2,s2⟩:=I.src hv
    have l1:=r1.length
    have l2:=r2.length
    refine next_zip_end (I.ok.hd hc) D hz hTI hTO (s1 _ _ h1) (s2 _ _ h2) (by
      rcases hend with q | q
      · exact .inl (by simp;omega)
      · exact .inr (by simp;omega)) fun h' a7=>⟨rfl,?_⟩
    refine I.turnedL (t':=s.toks) (chs:=[z,TO,i1,i2]) (fun b hb=>hf b (by
      simp only [List.mem_cons,List.not_mem_nil,or_false] at hb ⊢
      rcases hb with rfl | rfl | rfl | rfl<;>simp)) fun b u hb e=>a7 b u (fun q=>hb (by simp [q])) (fun q=>hb (by simp [q])) (fun q=>hb (by simp [q])) (fun q=>hb (by simp [q])) e
  self:=fun _ _ _ _ _ st h=>wpAny_pyIter_zip st.1 h
def zipD:List D→List D→List D
  | x::xs,y::ys=>.tup [x,y]::zipD xs ys
  | _,_=>[]
theorem zipD_len:∀ (xs ys:List D),(zipD xs ys).length=min xs.length ys.length
  | [],_=>by simp [zipD]
  | _::_,[]=>by simp [zipD]
  | x::xs,y::ys=>by simp only [zipD,List.length_cons,zipD_len xs ys];omega
theorem zipD_get:∀ (xs ys:List D) (i:Nat) (d:D),(zipD xs ys)[i]? = some d→∃ x y,xs[i]? = some x∧ys[i]? = some y∧d = .tup [x,y]
  | [],_,_,_,h=>by simp [zipD] at h
  | _::_,[],_,_,h=>by simp [zipD] at h
  | x::xs,y::ys,0,d,h=>by simp [zipD] at h;exact ⟨x,y,rfl,rfl,h.symm⟩
  | x::xs,y::ys,i+1,d,h=>by
    obtain ⟨a,b,h1,h2,h3⟩:=zipD_get xs ys i d (by simpa [zipD] using h)
    exact ⟨a,b,by simpa using h1,by simpa using h2,h3⟩
theorem src_of {K:PySem.W.Frag} {H:Hp} {d:D} {ds:List D} {v:V} (h:itemsD d=some ds) (r:Rep K H d v):∃ u:Src,v = .ref u.at∧∀ H',Rep K H' d v→∃ xs,SqS K H' u xs∧Reps K H' ds xs:=by
  cases d with
  | tup xs=>cases h;obtain ⟨a,us,rfl,_⟩:=r.tup_of;exact ⟨.T a,rfl,fun H' r'=>by obtain ⟨a',us',e,e2,e3⟩:=r'.tup_of;injection e with e;subst e;exact ⟨us',SqT.of e2,e3⟩⟩
  | lst xs=>cases h;obtain ⟨a,us,rfl,_⟩:=r.lst_of;exact ⟨.L a,rfl,fun H' r'=>by obtain ⟨a',us',e,e2,e3⟩:=r'.lst_of;injection e with e;subst e;exact ⟨us',SqL.of e2,e3⟩⟩
  | fro xs=>cases h;obtain ⟨a,us,rfl,_⟩:=r.fro_of;exact ⟨.L a,rfl,fun H' r'=>by obtain ⟨a',us',e,e2,e3⟩:=r'.fro_of;injection e with e;subst e;exact ⟨us',e2.sq,e3⟩⟩
  | _=>cases h
theorem itd_zip {K:PySem.W.Frag} {u v:Src} {d e:D} {ds es:List D} {vx vy:V} (h1:∀ H',Rep K H' d vx→∃ xs,SqS K H' u xs∧Reps K H' ds xs) (h2:∀ H',Rep K H' e vy→∃ xs,SqS K H' v xs∧Reps K H' es xs):ItD K (Itz K u v) [(vx,d),(vy,e)] (zipD ds es) where
  go:=fun i H g hi=>by
    obtain ⟨xs,q1,r1⟩:=h1 H (g (vx,d) (by simp))
    obtain ⟨ys,q2,r2⟩:=h2 H (g (vy,e) (by simp))
    have l1:=r1.length
    have l2:=r2.length
    rw [zipD_len] at hi
    exact ⟨xs,ys,xs[i],ys[i],q1,q2,List.getElem?_eq_getElem (by omega),List.getElem?_eq_getElem (by omega)⟩
  yld:=fun i H x H' c g hd ⟨p,x1,y1,hn,hx,hH,k1,k2⟩=>by
    obtain ⟨xs,q1,r1⟩:=h1 H (g (vx,d) (by simp))
    obtain ⟨ys,q2,r2⟩:=h2 H (g (vy,e) (by simp))
    obtain ⟨a,b,e1,e2,rfl⟩:=zipD_get ds es i c hd
    obtain ⟨v1,z1,z2⟩:=r1.get e1
    obtain ⟨v2,z3,z4⟩:=r2.get e2
    have w1:=k1 xs q1
    have w2:=k2 ys q2
    rw [z1] at w1;cases w1
    rw [z3] at w2;cases w2
    subst hx hH
    exact ⟨same_new hn _,rep_tup upd_same (reps_cons (z2.mono (same_new hn _)) (reps_cons (z4.mono (same_new hn _)) reps_nil))⟩
  stop:=fun H g=>by
    obtain ⟨xs,q1,r1⟩:=h1 H (g (vx,d) (by simp))
    obtain ⟨ys,q2,r2⟩:=h2 H (g (vy,e) (by simp))
    refine ⟨xs,ys,q1,q2,?_⟩
    rw [zipD_len,r1.length,r2.length]
    omega
def zip2:List D→Option (List D)
  | [a,b]=>(itemsD a).bind fun xs=>(itemsD b).map fun ys=>zipD xs ys
  | _=>none
section
variable {X:Cx} {a b:Expr} {p pos tpos:Pos} {elts:List Expr} {tk:Nat}
theorem i_zip {fs:DS→Option (List D)} (hg:Gl X "zip") (hm:X.mg "zip" = none) (ha:PA X [a,b] (tDA X.K fs)) (hs:starEach [a,b] X.env=[(false,eval a X.env),(false,eval b X.env)]:=by rfl) (hs2:starEach [b] X.env=[(false,eval b X.env)]:=by rfl)
    (hv:bootBuiltins "zip" = some (.type "zip"):=by decide +kernel):PI X (.Tuple elts tk tpos) (.Call (.Name "zip" p) [a,b] [] pos) (tI X.K fun δ=>(fs δ).bind zip2):=by
  intro pins s σ H R I ⟨δ,ds,sr,e,q⟩
  dsimp only at e
  cases ex:fs δ with
  | none=>rw [ex] at e;cases e
  | some args =>
    rw [ex] at e
    have e':zip2 args=some ds:=e
    unfold zip2 at e'
    split at e'
    · rename_i da db
      cases hda:itemsD da with
      | none=>rw [hda] at e';cases e'
      | some xs =>
        cases hdb:itemsD db with
        | none=>simp [hda,hdb] at e'
        | some ys =>
          have e'':zipD xs ys=ds:=by simpa [hda,hdb] using e'
          subst e''
          refine Call_ (ld_blt I hg hm hv (PyProof.Rows.callWith_type1 (thn (ha pos pins s σ H (fun vs H1=>Same H H1∧Reps X.K H1 [da,db] vs) I ⟨δ,_,sr,ex,fun vs H1 s1 rs=>⟨s1,rs⟩⟩) fun us s1 ⟨vs,H1,I1,r1,S,rs⟩=>?_) (by rw [hs,hs2]) (by rw [hs2];rfl)))
          obtain ⟨va,rr,rfl,ra,rn⟩:=rs.cons_of
          obtain ⟨vb,rr2,rfl,rb,rn2⟩:=rn.cons_of
          cases rn2.nil_of
          obtain ⟨u,rfl,hu⟩:=src_of hda ra
          obtain ⟨v,rfl,hv'⟩:=src_of hdb rb
          obtain ⟨xsv,qu,ru⟩:=hu H1 ra
          obtain ⟨ysv,qv,rv⟩:=hv' H1 rb
          cases r1 with
          | cons q1 r1 =>
            cases r1 with
            | cons q2 r1 =>
              cases r1
              cases q1
              cases q2
              obtain ⟨its,k1,c1,z1,lt1,_⟩:=I1.src qu
              obtain ⟨its2,k2,c2,z2,lt2,_⟩:=I1.src qv
              refine call_zipC c1 c2 fun h' a1 a2 a3 a4 a5 a6 a7=>?_
              have I2:Inv X pins σ H1 { s1 with heap:=h' }:=I1.kept (t':=s1.toks) a7
              refine wpAny_pyIter_zip (s:={ s1 with heap:=h' }) a1 ?_
              refine ⟨s1.heap.objs.size+4,[s1.heap.objs.size+4,s1.heap.objs.size+2,s1.heap.objs.size+3,s1.heap.objs.size,s1.heap.objs.size+1],_,_,H1,rfl,I2,turn_zip u v _ _ _ _ _ (zipApart_new lt1 lt2),⟨a1,a2,⟨_,_,a3⟩,itAt_new a4,itAt_new a5⟩,fun b hb=>?_,q _ _ H1 S (fun p hp=>?_) (itd_zip hu hv') ?_⟩
              · have hb':s1.heap.objs.size≤b:=by
                  simp only [List.mem_cons,List.not_mem_nil,or_false] at hb
                  rcases hb with rfl | rfl | rfl | rfl | rfl<;>omega
                exact I1.fpOk hb' (I1.hok.fresh hb')
              · simp only [List.mem_cons,List.not_mem_nil,or_false] at hp
                rcases hp with rfl | rfl
                · exact ra
                · exact rb
              · rw [zipD_len]
                have:=ru.length
                omega
    · cases e'
end
end L2
set_option Elab.async false
set_option linter.all false
set_option maxRecDepth 100000
set_option maxHeartbeats 1000000
namespace L2
open PySem PySem.Spec PyProof.Rows
abbrev eH1 (h:Heap) (c:String) (l:Addr):Heap:=h.push (itObj c l)
abbrev eH2 (h:Heap) (c:String) (l:Addr):Heap:=(eH1 h c l).push { cls:=.type "enumerate", data:=.fields #[.none,.bool false,.ref h.objs.size,rawInt 0,.none,.none] }
theorem meets_enumC (c:String) (l:Addr) (xs:Array Value) :
    Meets (Builtin.«enumerate.__new__» ⟨[.type "enumerate", .ref l],[]⟩) (fun _ R s=>SeqC s.heap c l xs∧R (.ok (.ret (.ref (eH1 s.heap c l).objs.size))) { s with heap:=eH2 s.heap c l }) :=
  .of_wp fun prog w A R s h=>by
    obtain ⟨hp,g,d,tk,os⟩:=s;obtain ⟨hl,h⟩:=h
    have hsub:=sub_enumerate
    have L1:SeqC (Shared.heap ⟨hp,g,d,tk,os⟩) c l xs:=hl
    wp_walk
    refine wpAny_stack_any fun st=>wpAny_pure ?_
    split
    · rename_i c' _ _ _ _ _
      cases (c'==Value.type "enumerate")
      · wp_walk using iter_seqC L1
        exact ⟨_,rfl,h⟩
      · wp_walk using iter_seqC L1
        exact ⟨_,rfl,h⟩
    · wp_walk using iter_seqC L1
      exact ⟨_,rfl,h⟩
section
variable {prog:Program} {w:World} {A:Around} {E:Value→Shared→Prop} {s:Shared}
theorem call_enumC {c:String} {l:Addr} {xs:Array Value} {Q:Value→Shared→Prop} (hl:SeqC s.heap c l xs)
    (h:∀ h',IsEnum h' (s.heap.objs.size+1) s.heap.objs.size 0 .none→h'.get? s.heap.objs.size=some (itObj c l)→h'.objs.size=s.heap.objs.size+2→(∀ b o,s.heap.get? b=some o→h'.get? b=some o)→Q (.ref (s.heap.objs.size+1)) { s with heap:=h' }) :
    wpAny (model prog w) A (call (.type "enumerate") [.ref l]) Q E s:=by
  refine callType_new F.called_enumerate (by decide) (F.typeCall_enumerate_1 _) (F.newCall_enumerate_1 _) (fun obj=>F.args_object_init_2 obj _) F.entry_enumerate_new (meets_enumC c l xs) ⟨hl,?_⟩
  have z1:(eH1 s.heap c l).objs.size=s.heap.objs.size+1:=Heap.size_push ..
  have z2:(eH2 s.heap c l).objs.size=s.heap.objs.size+2:=by rw [Heap.size_push,z1]
  have g2:(eH2 s.heap c l).get? (eH1 s.heap c l).objs.size=some _:=Heap.get?_push_size _ rfl
  have g1:(eH2 s.heap c l).get? s.heap.objs.size=some _:=Heap.get?_push_of_some _ (Heap.get?_push_size _ rfl)
  show _∧_
  rw [z1] at g2 ⊢
  exact ⟨⟨_,g2,rfl⟩,h _ g2 g1 z2 fun b o q=>Heap.get?_push_of_some _ (Heap.get?_push_of_some _ q)⟩
theorem draws_sub (hh:A.handled=none) (b:Bool) (it l:Addr) (hne:l≠it) (xs:Array Value):Draws prog w A it [it,l] xs.size (fun i v=>xs[i]? = some v) (fun i h=>SubIt b h it l i xs) where
  live:=fun _ _ st=>let ⟨⟨o,ho,_⟩,_⟩:=st.objs;⟨o,ho⟩
  frame:=fun _ _ _ st hk=>st.keep (fun o e=>hk it (by simp) o e) fun o e=>hk l (by simp) o e
  item:=fun i s Q E hi st hQ=>sub_next st (x:=xs[i]) (by simp [hi]) hne fun h' st' hs'=>hQ _ h' s.toks (by simp [hi]) st' hs'
  done:=fun s Q E st hE=>sub_end hh st (by simp) hE
end
def Ite (K:PySem.W.Frag) (u:Src):It :=
  ⟨fun i H => ∃ xs x, SqS K H u xs ∧ xs[i]? = some x,
   fun i H t H' => ∃ p x, H p = none ∧ t = .ref p ∧ H' = upd H p (.tup [.int (i : Int), x]) ∧ (∀ xs, SqS K H u xs → xs[i]? = some x),
   fun i H=>∃ xs,SqS K H u xs∧xs.length=i⟩
theorem turn_enum {P:Program} {w:World} {K:PySem.W.Frag} {elts:List Expr} {k:Nat} {pos:Pos} (u:Src) (e it:Addr) (hei:e≠it) (hui:u.at≠it) (hue:u.at≠e) :
    Turn P w K (.Tuple elts k pos) (Ite K u) [e,it] e (fun i h=>(∃ old,IsEnum h e it i old)∧itAt h u it i) where
  mem:=by simp
  obj:=fun i h ⟨⟨old,he⟩,h1⟩ c hc=>by
    simp only [List.mem_cons,List.not_mem_nil,or_false] at hc
    rcases hc with rfl | rfl
    · exact ⟨_,he,fun v z=>nomatch z⟩
    · exact itAt_obj h1
  keep:=fun i h h' ⟨⟨old,he⟩,h1⟩ kp=>⟨⟨old,kp e (by simp) _ he⟩,itAt_keep h1 fun o q=>kp it (by simp) o q⟩
  item:=by
    intro X hP hw hK hc i pins s σ H E I hf ⟨⟨old,he⟩,h1⟩ hg
    subst hP hw hK
    obtain ⟨xs,x,hu,hx⟩:=hg
    obtain ⟨its,r1,_,_,lt1,s1⟩:=I.src hu
    obtain ⟨ux,hux,rx⟩:=r1.get hx
    have hlt:i<its.toArray.size:=by
      rw [List.size_toArray];exact (List.getElem?_eq_some_iff.mp hux).1
    have hh:X.A.in1.handled=none:=I.ok.hd hc
    refine wpAny_pyNext_enum_itemD (draws_sub hh u.b it u.at hui its.toArray) he (s1 _ _ h1) hlt hei (by simp [hei,Ne.symm hue]) fun y h' tk hy a1 a2 a3 a4 a5=>⟨_,rfl,?_⟩
    have hyx:y=ux:=by
      have:its.toArray[i]? = some ux:=by simpa using hux
      rw [this] at hy;exact (Option.some.inj hy).symm
    subst hyx
    have hch:∀ b∈[e,it],FpOk X pins H b:=fun b hb=>hf b hb
    have k':∀ b v,b∉[e,it]→s.heap.get? b=some v→h'.get? b=some v:=fun b v hb q=>a5 b v (fun z=>hb (by simp [z])) (fun z=>hb (by simp [z])) q
    have I1:Inv X pins σ (upd H s.heap.objs.size (.tup [.int (i:Int),x])) { s with heap:=h',toks:=tk+1 }:=I.turnedNew hch k' ⟨by show 2≤sizeLine;decide,[.int i tk,y],.cons ⟨tk,rfl⟩ (.cons rx .nil),⟨_,a3,rfl,_,rfl⟩⟩
    refine wpAny_letOwnedTupleGo_enum (s:={ s with heap:=h',toks:=tk+1 }) a1 fun h2' he' hs'=>?_
    have hn:=I.hok.fresh (Nat.le_refl s.heap.objs.size)
    have ltf:∀ b∈[e,it],b≠s.heap.objs.size:=fun b hb=>by
      simp only [List.mem_cons,List.not_mem_nil,or_false] at hb
      rcases hb with rfl | rfl
      · exact Nat.ne_of_lt (Heap.lt_size he)
      · obtain ⟨o,q,_⟩:=itAt_obj h1;exact Nat.ne_of_lt (Heap.lt_size q)
    obtain ⟨f0,f1,f2,f3,f4,f5⟩:=hf e (by simp)
    have I2:Inv X pins σ (upd H s.heap.objs.size (.tup [.int (i:Int),x])) { s with heap:=h2',toks:=tk+1 }:=I1.turned (t':=tk+1) (fun b o hb q=>hs'.extBut b o hb q) (by rw [upd_ne (ltf e (by simp))];exact f0) f1 f3 f4 f5
    refine ⟨.ref s.heap.objs.size,_,I2,rfl,⟨s.heap.objs.size,x,hn,rfl,rfl,fun xs' h=>by rw [I.src_inj h hu];exact hx⟩,?_,fun b hb=>by rw [upd_ne (ltf b hb)];exact (hf b hb).1⟩
    exact ⟨⟨_,by simpa using he'⟩,itAt_keep a2.itAt fun o q=>hs'.extBut _ _ (Ne.symm hei) q⟩
  done:=by
    intro X hP hw hK hc i pins s σ H E I hf ⟨⟨old,he⟩,h1⟩ hg
    subst hP hw hK
    obtain ⟨xs,hu,hend⟩:=hg
    obtain ⟨its,r1,_,_,lt1,s1⟩:=I.src hu
    have hh:X.A.in1.handled=none:=I.ok.hd hc
    have l1:=r1.length
    have hi:i=its.toArray.size:=by rw [List.size_toArray];omega
    have st:SubIt u.b s.heap it u.at its.toArray.size its.toArray:=by rw [← hi];exact s1 _ _ h1
    obtain ⟨f0,f1,f2,f3,f4,f5⟩:=hf it (by simp)
    exact wpAny_pyNext_enum_endD (draws_sub hh u.b it u.at hui its.toArray) he st fun h' hx=>⟨rfl,I.turned (t':=s.toks) (fun b o hb q=>hx b o hb q) f0 f1 f3 f4 f5⟩
  self:=fun _ _ _ _ _ st h=>let ⟨_,he⟩:=st.1;wpAny_pyIter_enum he h
def enumFrom:Nat→List D→List D
  | _,[]=>[]
  | k,x::xs=>.tup [.int (k:Int),x]::enumFrom (k+1) xs
theorem enumFrom_len:∀ (k:Nat) (xs:List D),(enumFrom k xs).length=xs.length
  | _,[]=>rfl
  | k,x::xs=>by simp only [enumFrom,List.length_cons,enumFrom_len (k+1) xs]
theorem enumFrom_get:∀ (k:Nat) (xs:List D) (i:Nat) (d:D),(enumFrom k xs)[i]? = some d→∃ x,xs[i]? = some x∧d = .tup [.int ((k+i:Nat):Int),x]
  | _,[],_,_,h=>by simp [enumFrom] at h
  | k,x::xs,0,d,h=>by simp [enumFrom] at h;exact ⟨x,rfl,h.symm⟩
  | k,x::xs,i+1,d,h=>by
    obtain ⟨a,h1,h2⟩:=enumFrom_get (k+1) xs i d (by simpa [enumFrom] using h)
    exact ⟨a,by simpa using h1,by rw [h2,show k+1+i=k+(i+1) by omega]⟩
theorem itd_enum {K:PySem.W.Frag} {u:Src} {d:D} {ds:List D} {vx:V} (h1:∀ H',Rep K H' d vx→∃ xs,SqS K H' u xs∧Reps K H' ds xs):ItD K (Ite K u) [(vx,d)] (enumFrom 0 ds) where
  go:=fun i H g hi=>by
    obtain ⟨xs,q1,r1⟩:=h1 H (g (vx,d) (by simp))
    have l1:=r1.length
    rw [enumFrom_len] at hi
    exact ⟨xs,xs[i],q1,List.getElem?_eq_getElem (by omega)⟩
  yld:=fun i H x H' c g hd ⟨p,x1,hn,hx,hH,k1⟩=>by
    obtain ⟨xs,q1,r1⟩:=h1 H (g (vx,d) (by simp))
    obtain ⟨a,e1,rfl⟩:=enumFrom_get 0 ds i c hd
    obtain ⟨v1,z1,z2⟩:=r1.get e1
    have w1:=k1 xs q1
    rw [z1] at w1;cases w1
    subst hx hH
    rw [Nat.zero_add]
    exact ⟨same_new hn _,rep_tup upd_same (reps_cons rep_int (reps_cons (z2.mono (same_new hn _)) reps_nil))⟩
  stop:=fun H g=>by
    obtain ⟨xs,q1,r1⟩:=h1 H (g (vx,d) (by simp))
    exact ⟨xs,q1,by rw [enumFrom_len,r1.length]⟩
def enumD:List D→Option (List D)
  | [a]=>(itemsD a).map (enumFrom 0)
  | _=>none
section
variable {X:Cx} {a:Expr} {p pos tpos:Pos} {elts:List Expr} {tk:Nat}
theorem i_enum {fs:DS→Option (List D)} (hg:Gl X "enumerate") (hm:X.mg "enumerate" = none) (ha:PA X [a] (tDA X.K fs)) (hs:starEach [a] X.env=[(false,eval a X.env)]:=by rfl)
    (hv:bootBuiltins "enumerate" = some (.type "enumerate"):=by decide +kernel):PI X (.Tuple elts tk tpos) (.Call (.Name "enumerate" p) [a] [] pos) (tI X.K fun δ=>(fs δ).bind enumD):=by
  intro pins s σ H R I ⟨δ,ds,sr,e,q⟩
  dsimp only at e
  cases ex:fs δ with
  | none=>rw [ex] at e;cases e
  | some args =>
    rw [ex] at e
    have e':enumD args=some ds:=e
    unfold enumD at e'
    split at e'
    · rename_i da
      cases hda:itemsD da with
      | none=>rw [hda] at e';cases e'
      | some xs =>
        rw [hda] at e'
        have e'':enumFrom 0 xs=ds:=by simpa using e'
        subst e''
        refine Call_ (ld_blt I hg hm hv (PyProof.Rows.callWith_type1 (thn (ha pos pins s σ H (fun vs H1=>Same H H1∧Reps X.K H1 [da] vs) I ⟨δ,_,sr,ex,fun vs H1 s1 rs=>⟨s1,rs⟩⟩) fun us s1 ⟨vs,H1,I1,r1,S,rs⟩=>?_) (by rw [hs];rfl) (by rfl)))
        obtain ⟨va,rr,rfl,ra,rn⟩:=rs.cons_of
        cases rn.nil_of
        obtain ⟨u,rfl,hu⟩:=src_of hda ra
        obtain ⟨xsv,qu,ru⟩:=hu H1 ra
        cases r1 with
        | cons q1 r1 =>
          cases r1
          cases q1
          obtain ⟨its,k1,c1,z1,lt1,_⟩:=I1.src qu
          refine call_enumC c1 fun h' a1 a2 a3 a4=>?_
          have I2:Inv X pins σ H1 { s1 with heap:=h' }:=I1.kept (t':=s1.toks) a4
          refine wpAny_pyIter_enum (s:={ s1 with heap:=h' }) a1 ?_
          refine ⟨s1.heap.objs.size+1,[s1.heap.objs.size+1,s1.heap.objs.size],_,_,H1,rfl,I2,turn_enum u _ _ (Nat.succ_ne_self _) (Nat.ne_of_lt lt1) (Nat.ne_of_lt (Nat.lt_succ_of_lt lt1)),⟨⟨_,a1⟩,itAt_new a2⟩,fun b hb=>?_,q _ _ H1 S (fun p hp=>?_) (itd_enum hu) ?_⟩
          · have hb':s1.heap.objs.size≤b:=by
              simp only [List.mem_cons,List.not_mem_nil,or_false] at hb
              rcases hb with rfl | rfl<;>omega
            exact I1.fpOk hb' (I1.hok.fresh hb')
          · simp only [List.mem_cons,List.not_mem_nil,or_false] at hp
            subst hp
            exact ra
          · rw [enumFrom_len]
            have:=ru.length
            omega
    · cases e'
end
end L2
set_option Elab.async false
set_option linter.all false
set_option maxRecDepth 100000
namespace L2
open PySem PySem.Spec PyProof.Rows
def vF (i:Nat):DS→Option D:=fun δ=>(δ[i]?).join
def cF (d:D):DS→Option D:=fun _=>some d
def unF (f:DS→Option D) (g:D→Option D):DS→Option D:=fun δ=>(f δ).bind g
def nilF:DS→Option (List D):=fun _=>some []
def callF (fs:DS→Option (List D)) (g:List D→Option D):DS→Option D:=fun δ=>(fs δ).bind g
def lstF (f:DS→Option (List D)):DS→Option D:=fun δ=>(f δ).map D.lst
def dispF (fs:DS→Option (List D)):DS→Option (List D):=fun δ=>(fs δ).bind fun ds=>if fit ds.length=true then some ds else none
def tupF (fs:DS→Option (List D)):DS→Option D:=fun δ=>(fs δ).bind fun ds=>if fit ds.length=true then some (.tup ds) else none
def fsF (fs:DS→Option (List D)) (g:List D→Option (List D)):DS→Option (List D):=fun δ=>(fs δ).bind g
def compF (fi:DS→Option (List D)) (h:D→DS→Option DS) (fc:DS→Option Bool) (fe:DS→Option D) (inn:List (Option Nat)):DS→Option (List D):=fun δ=>(fi δ).bind fun ds=>compD h fc fe (innD inn δ) ds
def oN:DS→Option (Option Int):=fun _=>some none
def oS (f:DS→Option D):DS→Option (Option Int):=fun δ=>asI (f δ)
def bT (f:DS→Option D):DS→Option Bool:=fun δ=>asB (f δ)
def yesT:DS→Option Bool:=fun _=>some true
def truT (f:DS→Option D):DS→Option Bool:=fun δ=>(f δ).bind truD
def andT (t u:DS→Option Bool):DS→Option Bool:=fun δ=>(t δ).bind fun k=>if k=true then u δ else some false
def orT (t u:DS→Option Bool):DS→Option Bool:=fun δ=>(t δ).bind fun k=>if k=true then some true else u δ
def notT (t:DS→Option Bool):DS→Option Bool:=fun δ=>(t δ).map (!·)
def itF (f:DS→Option D):DS→Option (List D):=fun δ=>(f δ).bind itemsD
def nxF:DS→Option DF:=fun δ=>some (.nx δ)
def retF (f:DS→Option D):DS→Option DF:=fun δ=>(f δ).map .rt
def setF (i:Nat) (f:DS→Option D):DS→Option DF:=fun δ=>(f δ).map fun d=>.nx (δ.set i (some d))
def setL (i:Nat) (f:DS→Option (List D)):DS→Option DF:=fun δ=>(f δ).map fun ds=>.nx (δ.set i (some (.lst ds)))
def ifF (t:DS→Option Bool) (g g':DS→Option DF):DS→Option DF:=fun δ=>(t δ).bind fun k=>if k=true then g δ else g' δ
def forF (fi:DS→Option (List D)) (h:D→DS→Option DS) (gb:DS→Option DF):DS→Option DF:=fun δ=>(fi δ).bind fun ds=>forD h gb ds δ
def compOk (sc scope:Scope) (N N':List Str) (inn:List (Option Nat)):Bool :=
  scope.kind==.function&&scope.names.all (fun y=>y.2 != .cell)&&scope.names.all (fun y=>y.2 != .local || scope.names.lookup y.1==some .local) &&
  scope.names.all (fun y=>y.2 != .free || (scope.names.lookup y.1==some .free&&(sc.names.lookup y.1==some .cell || sc.names.lookup y.1==some .free))) &&
  decide N'.Nodup&&inn.length==N'.length&&(inn.zip N').all (fun p=>match p.1 with | none=>true | some j=>N[j]?==some p.2&&scope.names.contains (p.2,.free))
theorem compSc_mk {X:Cx} {scope:Scope} {N':List Str} {inn:List (Option Nat)} (sc:Scope) (N:List Str) (h1:X.env.scope=sc) (h2:X.N=N) (h:compOk sc scope N N' inn=true):CompSc X scope N' inn:=by
  unfold compOk at h
  simp only [Bool.and_eq_true] at h
  obtain ⟨⟨⟨⟨⟨⟨a1,a2⟩,a3⟩,a4⟩,a5⟩,a6⟩,a7⟩:=h
  refine ⟨eq_of_beq a1,fun y hy=>?_,fun y hy e=>?_,fun y hy=>?_,of_decide_eq_true a5,eq_of_beq a6,fun i j hi=>?_⟩
  · have:=List.all_eq_true.mp a2 y hy
    simpa using this
  · have:=List.all_eq_true.mp a3 y hy
    rcases Bool.or_eq_true_iff.mp this with z | z
    · simp [e] at z
    · exact eq_of_beq z
  · have:=List.all_eq_true.mp a4 (y,.free) hy
    rcases Bool.or_eq_true_iff.mp this with z | z
    · simp at z
    · obtain ⟨z1,z2⟩:=Bool.and_eq_true_iff.mp z
      refine ⟨eq_of_beq z1,?_⟩
      show X.env.scope.names.lookup y=_∨X.env.scope.names.lookup y=_
      rw [h1]
      rcases Bool.or_eq_true_iff.mp z2 with w | w
      · exact .inl (eq_of_beq w)
      · exact .inr (eq_of_beq w)
  · have hl:inn.length=N'.length:=eq_of_beq a6
    have hi1:i<inn.length:=(List.getElem?_eq_some_iff.mp hi).1
    have hz:(inn.zip N')[i]? = some (some j,N'[i]'(by omega)):=by
      rw [List.getElem?_zip_eq_some]
      exact ⟨hi,List.getElem?_eq_getElem (by omega)⟩
    have:=List.all_eq_true.mp a7 _ (List.mem_of_getElem? hz)
    obtain ⟨z1,z2⟩:=Bool.and_eq_true_iff.mp this
    exact ⟨_,List.getElem?_eq_getElem (by omega),by rw [h2];exact eq_of_beq z1,List.contains_iff_mem.mp z2⟩
end L2
set_option Elab.async false
set_option linter.all false
set_option maxRecDepth 100000
set_option maxHeartbeats 1000000
namespace L2
open PySem PySem.Spec PyProof.Rows
theorem whileD_mono {tc:DS→Option Bool} {gb:DS→Option DF} {fl:DF}:∀ {n m:Nat} {δ:DS},n≤m→whileD tc gb n δ=some fl→whileD tc gb m δ=some fl
  | 0,_,_,_,h=>by cases h
  | n+1,0,_,l,_=>absurd l (Nat.not_succ_le_zero n)
  | n+1,m+1,δ,l,h=>by
    unfold whileD at h ⊢
    cases et:tc δ with
    | none=>rw [et] at h;cases h
    | some k =>
      rw [et] at h
      rw [Option.bind_some] at h ⊢
      cases k with
      | false=>exact h
      | true =>
        rw [if_pos rfl] at h ⊢
        cases eg:gb δ with
        | none=>rw [eg] at h;cases h
        | some f1 =>
          rw [eg] at h
          rw [Option.bind_some] at h ⊢
          cases f1 with
          | nx δ2=>exact whileD_mono (Nat.le_of_succ_le_succ l) h
          | ct δ2=>exact whileD_mono (Nat.le_of_succ_le_succ l) h
          | bk δ2=>exact h
          | rt d=>exact h
open Classical in
noncomputable def fuelOf (tc:DS→Option Bool) (gb:DS→Option DF) (δ:DS):Nat:=if h:∃ n,(whileD tc gb n δ).isSome=true then Classical.choose h else 0
noncomputable def whF (tc:DS→Option Bool) (gb:DS→Option DF):DS→Option DF:=fun δ=>whileD tc gb (fuelOf tc gb δ) δ
theorem whF_eq {tc:DS→Option Bool} {gb:DS→Option DF} {n:Nat} {δ:DS} {fl:DF} (h:whileD tc gb n δ=some fl):whF tc gb δ=some fl:=by
  have ex:∃ n,(whileD tc gb n δ).isSome=true:=⟨n,by rw [h];rfl⟩
  unfold whF fuelOf
  rw [dif_pos ex]
  obtain ⟨f2,h2⟩:=Option.isSome_iff_exists.mp (Classical.choose_spec ex)
  have a:=whileD_mono (Nat.le_max_left n (Classical.choose ex)) h
  have b:=whileD_mono (Nat.le_max_right n (Classical.choose ex)) h2
  rw [a] at b
  rw [h2,← b]
def lamOk (sc scope:Scope) (N N':List Str) (par:Str) (inn:List (Option Nat)):Bool :=
  scope.kind==.function && !scope.isCoroutine && !scope.isGenerator&&scope.names.all (fun y=>y.2 != .cell)&&scope.names.lookup par==some .local &&
  scope.names.all (fun y=>y.2 != .free || (scope.names.lookup y.1==some .free&&(sc.names.lookup y.1==some .cell || sc.names.lookup y.1==some .free))) &&
  inn.length==N'.length&&N'[0]?==some par&&(inn.zip N').all (fun p=>match p.1 with | none=>true | some j=>N[j]?==some p.2&&scope.names.contains (p.2,.free))
theorem lamSc_mk {X:Cx} {scope:Scope} {N':List Str} {par:Str} {inn:List (Option Nat)} (sc:Scope) (N:List Str) (h1:X.env.scope=sc) (h2:X.N=N) (h:lamOk sc scope N N' par inn=true):LamSc X scope N' par inn:=by
  unfold lamOk at h
  simp only [Bool.and_eq_true] at h
  obtain ⟨⟨⟨⟨⟨⟨⟨⟨a1,a2⟩,a3⟩,a4⟩,a5⟩,a6⟩,a7⟩,a8⟩,a9⟩:=h
  refine ⟨eq_of_beq a1,by simpa using a2,by simpa using a3,fun y hy=>?_,eq_of_beq a5,fun y hy=>?_,eq_of_beq a7,eq_of_beq a8,fun i j hi=>?_⟩
  · have:=List.all_eq_true.mp a4 y hy
    simpa using this
  · have:=List.all_eq_true.mp a6 (y,.free) hy
    rcases Bool.or_eq_true_iff.mp this with z | z
    · simp at z
    · obtain ⟨z1,z2⟩:=Bool.and_eq_true_iff.mp z
      refine ⟨eq_of_beq z1,?_⟩
      show X.env.scope.names.lookup y=_∨X.env.scope.names.lookup y=_
      rw [h1]
      rcases Bool.or_eq_true_iff.mp z2 with w | w
      · exact .inl (eq_of_beq w)
      · exact .inr (eq_of_beq w)
  · have hl:inn.length=N'.length:=eq_of_beq a7
    have hi1:i<inn.length:=(List.getElem?_eq_some_iff.mp hi).1
    have hz:(inn.zip N')[i]? = some (some j,N'[i]'(by omega)):=by
      rw [List.getElem?_zip_eq_some]
      exact ⟨hi,List.getElem?_eq_getElem (by omega)⟩
    have:=List.all_eq_true.mp a9 _ (List.mem_of_getElem? hz)
    obtain ⟨z1,z2⟩:=Bool.and_eq_true_iff.mp this
    exact ⟨_,List.getElem?_eq_getElem (by omega),by rw [h2];exact eq_of_beq z1,List.contains_iff_mem.mp z2⟩
section
variable {X:Cx} {H₀:Hp} {gh:List (V × D)} {ow ow1 ow' owL:List Nat} {a b c e:Expr} {es:List Expr} {pos p:Pos} {fa fb fc:DS→Option D} {st:Stmt} {sts:List Stmt} {g g':DS→Option DF}
theorem s_whileF {c:Expr} {body:List Stmt} {tc:DS→Option Bool} {gb:DS→Option DF} (hp:PassesOwn (model X.prog X.w) X.A X.env X.xe) (hc:PT X c (tT X.K tc)) (hb:PSs X body (tS X.K H₀ gh ow ow ow gb)) :
    PS X (.While c body [] pos) (tS X.K H₀ gh ow ow owL (whF tc gb)):=s_while (fuelOf tc gb) hp hc hb
def absD:List D→Option D
  | [.int i]=>some (.int (if i<0 then -i else i))
  | _=>none
theorem told_abs:ToldC X.K (fun xs H Q=>∃ i,xs=[.int i]∧Q (.int (if i<0 then -i else i)) H) absD:=fun H ds d vs Q rs e q=>by
  unfold absD at e
  split at e
  · rename_i i
    cases e
    obtain ⟨v,r,rfl,h1,h2⟩:=rs.cons_of
    cases h2.nil_of
    exact ⟨i,by rw [h1.int_of],q _ H (Same.refl H) rep_int⟩
  · cases e
theorem d_abs {fs:DS→Option (List D)} (hg:Gl X "abs") (hm:X.mg "abs" = none) (ha:PA X (e::es) (tDA X.K fs)) (he:starEach (e::es) X.env=(false,eval e X.env)::starEach es X.env:=by rfl) (hpl:(backTo pos (starEach es X.env)).any (·.1)=false:=by rfl) :
    PE X (.Call (.Name "abs" p) (e::es) [] pos) (tD X.K fun δ=>(fs δ).bind absD):=d_callB call_abs told_abs hg hm boot_abs ha (by decide) (by decide) he hpl
theorem noLs_set:∀ {ds:List D} {d:D} (j:Nat),noLs ds=true→noL d=true→noLs (ds.set j d)=true
  | [],_,_,_,_=>rfl
  | x::ds,d,0,h,hd=>by
    have n':noL x=true∧noLs ds=true:=by simpa [noLs] using h
    simp [noLs,hd,n'.2]
  | x::ds,d,j+1,h,hd=>by
    have n':noL x=true∧noLs ds=true:=by simpa [noLs] using h
    simp [noLs,n'.1,noLs_set j n'.2 hd]
def storeD (k:Nat) (fi:DS→Option D) (d:D) (δ:DS):Option DS:=(fi δ).bind fun di=>match (δ[k]?).join,di with
  | some (.lst ds),.int i=>(ixN ds.length i).bind fun j=>if noLs ds=true∧noL d=true∧others k δ=true then some (δ.set k (some (.lst (ds.set j d)))) else none
  | _,_=>none
theorem store_step {K:PySem.W.Frag} {k:Nat} {fi:DS→Option D} {d:D} {v:V} {σ:St} {H:Hp} {δ δ':DS} {Q:St→Hp→Prop} (hk:k∈ow) (hgh:∀ p∈gh,noL p.2=true) (so:SOk K H₀ gh ow H σ δ) (rv:Rep K H d v) (e:storeD k fi d δ=some δ')
    (cont:∀ H',SOk K H₀ gh ow H' σ δ'→(∀ d v,noL d=true→Rep K H d v→Rep K H' d v)→Q σ H'):gSub (tVar k) (tD K fi) rSetL v σ H Q:=by
  unfold storeD at e
  cases ei:fi δ with
  | none=>rw [ei] at e;cases e
  | some di =>
    cases eo:(δ[k]?).join with
    | none=>simp [ei,eo] at e
    | some dk =>
      cases dk with
      | lst ds =>
        cases di with
        | int i =>
          cases ej:ixN ds.length i with
          | none=>simp [ei,eo,ej] at e
          | some j =>
            have e':(if noLs ds=true∧noL d=true∧others k δ=true then some (δ.set k (some (.lst (ds.set j d)))) else none)=some δ':=by simpa [ei,eo,ej] using e
            by_cases hc:noLs ds=true∧noL d=true∧others k δ=true
            · rw [if_pos hc] at e'
              cases e'
              obtain ⟨w,h1,h2⟩:=so.rep.get eo
              obtain ⟨l,us,rfl,hl,rs⟩:=h2.lst_of
              refine ⟨.ref l,h1,δ,.int i,so.rep,ei,fun vi H2 S2 ri=>⟨l,us,i,j,rfl,ri.int_of,S2 _ _ hl,by rw [rs.length];exact ej,?_⟩⟩
              refine cont _ ((so.mono S2).write hk h1 (S2 _ _ hl) hc.2.2 hgh ((rs.mono S2).set (rv.mono S2) j) (noLs_set j hc.1 hc.2.1)) fun d' v' hn r=>Rep.upd (S2 _ _ hl) hn (r.mono S2)
            · rw [if_neg hc] at e';cases e'
        | _=>simp [ei,eo] at e
      | _=>simp [ei,eo] at e
def putS (k:Nat) (fi fe:DS→Option D):DS→Option DF:=fun δ=>(fe δ).bind fun d=>(storeD k fi d δ).map .nx
theorem s_put (k:Nat) {x:Str} {px pt:Pos} {i:Expr} {fi fe:DS→Option D} (hk:k∈ow) (hN:X.N[k]? = some x) (hv:Vis X.env.scope x) (hgh:∀ p∈gh,noL p.2=true) (hi:PE X i (tD X.K fi)) (he:PE X e (tD X.K fe))
    (hd:(x==("__debug__" : Str))=false:=by decide) (hcd:(x==("__classdict__" : Str))=false:=by decide)
    (ha:∀ v,assign (.Subscript (.Name x px) i pt) X.env v=(do
      let ov ← holding [v] (eval (.Name x px) X.env)
      let iv ← holding [v,ov] (eval i X.env)
      standAt pt
      holding [v,ov,iv] (setItem ov iv v)
      release [v,ov,iv] []):=by intro _;rfl)
    (hs:swapsWithSole [.Subscript (.Name x px) i pt] e pos.line X.env=pure false:=by rfl) (hw:swappedStores [.Subscript (.Name x px) i pt] e X.env=pure none:=by rfl)
    (h1:(assignEach [.Subscript (.Name x px) i pt] X.env).map (·.2)=[assign (.Subscript (.Name x px) i pt) X.env]:=by rfl) :
    PS X (.Assign [.Subscript (.Name x px) i pt] e pos) (tS X.K H₀ gh ow ow owL (putS k fi fe)):=PS.imp (ps_asg he (pg_sub (pe_var hN hv hd hcd) hi set_list ha) hs hw h1) fun E σ H ⟨δ,fl,so,e,q⟩=>by
  unfold putS at e
  cases ee:fe δ with
  | none=>rw [ee] at e;cases e
  | some d =>
    cases es:storeD k fi d δ with
    | none=>simp [ee,es] at e
    | some δ' =>
      have e':DF.nx δ' = fl:=by simpa [ee,es] using e
      subst e'
      exact ⟨δ,d,so.rep,ee,fun v H1 S1 rv=>store_step hk hgh (so.mono S1) rv es fun H' so' _=>q σ H' so'⟩
theorem s_drop (ow2:List Nat) (s:∀ i∈ow2,i∈ow') (h:PS X st (tS X.K H₀ gh ow ow' owL g)):PS X st (tS X.K H₀ gh ow ow2 owL g):=PS.imp h fun E σ H ⟨δ,fl,so,e,q⟩=>⟨δ,fl,so,e,by
  cases fl with
  | nx δ'=>exact fun σ' H' so'=>q σ' H' (so'.weak s)
  | rt d=>exact q
  | bk d=>exact q
  | ct d=>exact q⟩
theorem r_drop {G:DS→(DF→Prop)→Prop} (ow2:List Nat) (s:∀ i∈ow2,i∈ow') (h:PS X st (tR X.K H₀ gh ow ow' owL G)):PS X st (tR X.K H₀ gh ow ow2 owL G):=PS.imp h fun E σ H ⟨δ,Q,so,g1,z⟩=>⟨δ,Q,so,g1,fun fl hf=>by
  have:=z fl hf
  cases fl with
  | nx δ'=>exact fun σ' H' so'=>this σ' H' (so'.weak s)
  | rt d=>exact this
  | bk d=>exact this
  | ct d=>exact this⟩
end
section
variable {X:Cx} {H₀:Hp} {gh:List (V × D)} {ow ow1 ow' owL:List Nat} {e:Expr} {es:List Expr} {pos p cp:Pos}
theorem r_call (i:Nat) {x y:Str} {pos':Pos} {k:Nat} {R:List D→(D→Prop)→Prop} {fs:DS→Option (List D)} (hN:X.N.Nodup) (hi:X.N[i]? = some x) (hx:Loc X.env.scope x) (c:CaR X.prog X.w X.K X.mg X.base k y R) (hr:Room k X.A) (hg:Gl X y) (ha:PA X (e::es) (tDA X.K fs))
    (hd:(y==("__debug__" : Str))=false:=by decide) (he:starEach (e::es) X.env=(false,eval e X.env)::starEach es X.env:=by rfl) (hpl:(backTo cp (starEach es X.env)).any (·.1)=false:=by rfl)
    (hs:swapsWith (.Call (.Name y p) (e::es) [] cp) (some (.Name x pos')) pos.line X.env=pure false:=by rfl)
    (hf:X.fn x=true∨X.env.scope.names.lookup x=some .local:=by first | exact .inl rfl | exact .inr rfl | assumption) :
    PS X (.Assign [.Name x pos'] (.Call (.Name y p) (e::es) [] cp) pos) (tR X.K H₀ gh ow (ow.filter (· ≠ i)) owL (callG i fs R)):=r_set i hN hi hx (dR_call c hr hg ha hd he hpl) hs hf
end
theorem def_okR {P:Program} {w:World} {K:PySem.W.Frag} {mg:Str→Option Value} {base:Heap} {x qual:Str} {st:Stmt} {f:Addr} {fd:FuncData} {N ps:List Str} {k:Nat} {G:DS→(DF→Prop)→Prop} (F:Fun K x qual st f fd) (S:FnScope N ps (defScope st)) (hm:mg x=some (.ref f)) (hB:Binds K fd ps [])
    (hb:∀ (cdv:Value) (A:Around) (outer:List Env) (s:Shared) (H:Hp) (E:XK),fd.code=cdv→Mod K mg base→Room k (A.deeper (envOfC qual (defScope st) s.heap.objs.size f cdv))→∃ ow',PSs (cxOf CX0 P w K mg base N qual (defScope st) f cdv A outer s H E).nox (defBody st) (tR K H [] [] ow' [] G)) :
    CaR P w K mg base (k+1) x (runR ps.length N G):=⟨f,fd,ps,hm,def_fnR F S hb,hB,F.kp⟩
end L2
set_option Elab.async false
set_option linter.all false
set_option maxRecDepth 100000
set_option maxHeartbeats 1000000
namespace L2
open PySem
theorem okMul_r {i j:Int} (h1:-(2 ^ 64)<j) (h2:j<2 ^ 64):okMul i j=true:=by
  unfold okMul
  rw [decide_eq_true (Or.inr ⟨h1,h2⟩)];rfl
theorem okMul_l {i j:Int} (h1:-(2 ^ 64)<i) (h2:i<2 ^ 64):okMul i j=true:=by
  unfold okMul
  rw [decide_eq_true (Or.inl ⟨h1,h2⟩)];rfl
def cellZ (ns:List Int) (k:Nat):Int:=ns.getD k 0
theorem atI_map {α β:Type} (f:α→β) (xs:List α) (i:Int):atI (xs.map f) i=(atI xs i).map f:=by
  unfold atI
  rw [List.length_map]
  cases ixN xs.length i with
  | none=>rfl
  | some j=>simp
def mixZ (c p m:Int):Int:=((c*48271).fmod p).fmod m
theorem compD_map {h:D→DS→Option DS} {fc:DS→Option Bool} {fe:DS→Option D} {ι:Type} (P:DS→Prop) (g r:ι→D):∀ (xs:List ι) (δ:DS),P δ →
    (∀ x∈xs,∀ δ,P δ→∃ δ1,h (g x) δ=some δ1∧P δ1∧fc δ1=some true∧fe δ1=some (r x))→compD h fc fe δ (xs.map g)=some (xs.map r)
  | [],_,_,_=>rfl
  | x::xs,δ,hP,hs=>by
    obtain ⟨δ1,e1,p1,e2,e3⟩:=hs x List.mem_cons_self δ hP
    rw [List.map_cons,List.map_cons]
    unfold compD
    rw [e1,Option.bind_some,e2,Option.bind_some,if_pos rfl,e3,Option.bind_some,compD_map P g r xs δ1 p1 fun y hy=>hs y (List.mem_cons_of_mem _ hy)]
    rfl
theorem forD_map {h:D→DS→Option DS} {gb:DS→Option DF} {ι σ:Type} (S:σ→DS→Prop) (g:ι→D) (f:σ→ι→σ):∀ (xs:List ι) (s:σ) (δ:DS),S s δ →
    (∀ x∈xs,∀ s δ,S s δ→∃ δ1 δ2,h (g x) δ=some δ1∧gb δ1=some (.nx δ2)∧S (f s x) δ2)→∃ δ',forD h gb (xs.map g) δ=some (.nx δ')∧S (xs.foldl f s) δ'
  | [],s,δ,hS,_=>⟨δ,rfl,hS⟩
  | x::xs,s,δ,hS,hs=>by
    obtain ⟨δ1,δ2,e1,e2,p⟩:=hs x List.mem_cons_self s δ hS
    obtain ⟨δ',e3,p'⟩:=forD_map S g f xs (f s x) δ2 p fun y hy=>hs y (List.mem_cons_of_mem _ hy)
    refine ⟨δ',?_,p'⟩
    rw [List.map_cons]
    unfold forD
    rw [e1,Option.bind_some,e2,Option.bind_some]
    exact e3
theorem zipD_map {α β:Type} (f:α→D) (g:β→D):∀ (xs:List α) (ys:List β),zipD (xs.map f) (ys.map g)=(xs.zip ys).map fun p=>D.tup [f p.1,g p.2]
  | [],_=>by simp [zipD]
  | _::_,[]=>by simp [zipD]
  | x::xs,y::ys=>by simp [zipD,zipD_map f g xs ys]
theorem rangeD_map (n:Nat):rangeD 0 n=(List.range n).map fun (k:Nat)=>D.int (k:Int):=by
  unfold rangeD
  apply List.map_congr_left
  intro k _
  rw [Int.zero_add]
theorem fit_of {n:Nat} (h:n≤1000):fit n=true:=decide_eq_true h
def rowD (r:List Int):D:=.tup (r.map D.int)
def rowZ (c:Int) (w:Nat):List Int:=(List.range w).map fun (k:Nat)=>mixZ (c+11*(k:Int)) 9973 13-6
theorem rowZ_len (c:Int) (w:Nat):(rowZ c w).length=w:=by simp [rowZ]
def addZ (acc:List Int) (p:Int × List Int):List Int:=List.zipWith (fun a b=>a+p.1*b) acc p.2
def sumZ (cs:List Int) (rows:List (List Int)) (w:Nat):List Int:=(cs.zip rows).foldl addZ (List.replicate w 0)
def small (c:Int):Prop:=-(2 ^ 64)<c∧c<2 ^ 64
theorem zipWith_zip {α β γ:Type} (f:α→β→γ) (xs:List α) (ys:List β):List.zipWith f xs ys=(xs.zip ys).map fun p=>f p.1 p.2:=by
  rw [List.zip,List.map_zipWith]
theorem runD_rt {n:Nat} {N:List Str} {g:DS→Option DF} {ds:List D} {d:D} (hl:ds.length=n) (h:g (ds.map some++List.replicate (N.length-ds.length) none)=some (.rt d)):runD n N g ds=some d:=by
  unfold runD
  rw [if_pos hl,h];rfl
theorem seqF_nx {g g':DS→Option DF} {δ δ':DS} (h:g δ=some (.nx δ')):seqF g g' δ=g' δ':=by
  unfold seqF
  rw [h];rfl
theorem forF_nx {fi:DS→Option (List D)} {h:D→DS→Option DS} {gb:DS→Option DF} {δ:DS} {ds:List D} {fl:DF} (h1:fi δ=some ds) (h2:forD h gb ds δ=some fl):forF fi h gb δ=some fl:=by
  unfold forF
  rw [h1];exact h2
theorem ifF_t {t:DS→Option Bool} {g g':DS→Option DF} {δ:DS} (h:t δ=some true):ifF t g g' δ=g δ:=by
  unfold ifF
  rw [h];rfl
theorem ifF_f {t:DS→Option Bool} {g g':DS→Option DF} {δ:DS} (h:t δ=some false):ifF t g g' δ=g' δ:=by
  unfold ifF
  rw [h];rfl
theorem retF_rt {f:DS→Option D} {δ:DS} {d:D} (h:f δ=some d):retF f δ=some (.rt d):=by
  unfold retF
  rw [h];rfl
theorem setF_nx {i:Nat} {f:DS→Option D} {δ:DS} {d:D} (h:f δ=some d):setF i f δ=some (.nx (δ.set i (some d))):=by
  unfold setF
  rw [h];rfl
theorem forD_range {h:D→DS→Option DS} {gb:DS→Option DF} {n:Nat} (S:Nat→DS→Prop) (hs:∀ k,k<n→∀ δ,S k δ→∃ δ1 δ2,h (.int (k:Int)) δ=some δ1∧gb δ1=some (.nx δ2)∧S (k+1) δ2) :
    ∀ (m k:Nat) (δ:DS),k+m=n→S k δ→∃ δ',forD h gb ((List.range' k m).map fun (j:Nat)=>D.int (j:Int)) δ=some (.nx δ')∧S n δ'
  | 0,k,δ,e,hS=>by
    have hk:k=n:=by omega
    subst hk
    exact ⟨δ,rfl,hS⟩
  | m+1,k,δ,e,hS=>by
    obtain ⟨δ1,δ2,e1,e2,p⟩:=hs k (by omega) δ hS
    obtain ⟨δ',e3,p'⟩:=forD_range S hs m (k+1) δ2 (by omega) p
    refine ⟨δ',?_,p'⟩
    rw [List.range'_succ,List.map_cons]
    unfold forD
    rw [e1,Option.bind_some,e2,Option.bind_some]
    exact e3
theorem mixZ_b (c p m:Int) (hm:0<m):0≤mixZ c p m∧mixZ c p m<m:=⟨Int.fmod_nonneg_of_pos _ hm,Int.fmod_lt_of_pos _ hm⟩
theorem noLs_ints:∀ (r:List Int),noLs (r.map D.int)=true
  | []=>rfl
  | x::r=>by simp [noLs,noL,noLs_ints r]
theorem noL_row (r:List Int):noL (rowD r)=true:=by simp [rowD,noL,noLs_ints]
theorem noLs_rows:∀ (rs:List (List Int)),noLs (rs.map rowD)=true
  | []=>rfl
  | r::rs=>by simp [noLs,noL_row,noLs_rows rs]
theorem foldl_addZ_len {w:Nat}:∀ (ps:List (Int × List Int)) (acc:List Int),acc.length=w→(∀ p∈ps,p.2.length=w)→(ps.foldl addZ acc).length=w
  | [],acc,h,_=>h
  | p::ps,acc,h,hp=>by
    rw [List.foldl_cons]
    refine foldl_addZ_len ps _ ?_ fun q hq=>hp q (List.mem_cons_of_mem _ hq)
    unfold addZ
    rw [List.length_zipWith,h,hp p List.mem_cons_self,Nat.min_self]
theorem sumZ_len (cs:List Int) (rows:List (List Int)) (w:Nat) (h:∀ r∈rows,r.length=w):(sumZ cs rows w).length=w :=
  foldl_addZ_len _ _ (by simp) fun p hp=>h p.2 (List.of_mem_zip hp).2
theorem ceq_int (i j:Int):ceqN 9 (.int i) (.int j)=some (i==j):=rfl
theorem addD_lst {xs ys:List D} (h:xs.length+ys.length≤1000):addD (.lst xs) (.lst ys)=some (.lst (xs++ys)):=by
  show (if fit (xs.length+ys.length)=true then some (D.lst (xs++ys)) else none)=_
  rw [if_pos (fit_of h)]
theorem fdivD_int {i j:Int} (h:j≠0):fdivD (.int i) (.int j)=some (.int (i.fdiv j)):=by
  simp only [fdivD,h,ne_eq,not_false_eq_true,if_true]
theorem modD_int {i j:Int} (h:j≠0):modD (.int i) (.int j)=some (.int (i.fmod j)):=by
  show (if j=0 then none else some (D.int (i.fmod j)))=_
  rw [if_neg h]
theorem mulD_int {i j:Int} (h:okMul i j=true):mulD (.int i) (.int j)=some (.int (i*j)):=by
  show (if okMul i j=true then some (D.int (i*j)) else none)=_
  rw [if_pos h]
theorem bind2_eq {f g:DS→Option D} {op:D→D→Option D} {δ:DS} {x y:D} (h1:f δ=some x) (h2:g δ=some y):bind2 f g op δ=op x y:=by
  unfold bind2
  rw [h1,h2];rfl
theorem callF_eq {fs:DS→Option (List D)} {F:List D→Option D} {δ:DS} {ds:List D} (h:fs δ=some ds):callF fs F δ=F ds:=by
  unfold callF
  rw [h];rfl
theorem consD_eq {f:DS→Option D} {fs:DS→Option (List D)} {δ:DS} {x:D} {xs:List D} (h1:f δ=some x) (h2:fs δ=some xs):consD f fs δ=some (x::xs):=by
  unfold consD
  rw [h1,h2];rfl
theorem bT_eq {f:DS→Option D} {δ:DS} {b:Bool} (h:f δ=some (.bl b)):bT f δ=some b:=by
  unfold bT
  rw [h];rfl
theorem orT_ff {t u:DS→Option Bool} {δ:DS} {b:Bool} (h1:t δ=some false) (h2:u δ=some b):orT t u δ=some b:=by
  unfold orT
  rw [h1];exact h2
theorem andT_t {t u:DS→Option Bool} {δ:DS} {b:Bool} (h1:t δ=some true) (h2:u δ=some b):andT t u δ=some b:=by
  unfold andT
  rw [h1];exact h2
theorem lstF_eq {f:DS→Option (List D)} {δ:DS} {ds:List D} (h:f δ=some ds):lstF f δ=some (.lst ds):=by
  unfold lstF
  rw [h];rfl
theorem log2_of {n k:Nat} (h:n≤2 ^ k):n.log2≤k:=by
  rcases Nat.eq_zero_or_pos n with z | z
  · subst z;simp
  · have:n.log2<k+1:=(Nat.log2_lt (Nat.ne_of_gt z)).mpr (Nat.lt_of_le_of_lt h (Nat.pow_lt_pow_right (by decide) (Nat.lt_succ_self k)))
    omega
theorem okM_of {i:Int} {k:Nat} (h:i.natAbs≤2 ^ k) (hk:k<60000000):okM i=true:=decide_eq_true (Nat.lt_of_le_of_lt (log2_of h) hk)
theorem okMul_of {i j:Int} {k:Nat} (h:i.natAbs≤2 ^ k) (h':j.natAbs≤2 ^ k) (hk:k<60000000):okMul i j=true:=by
  unfold okMul
  rw [okM_of h hk,okM_of h' hk]
  simp
theorem atI_row {r:List Int} {p:Nat} (h:p<r.length):atI (r.map D.int) (p:Int)=some (.int (La.at' r p)):=by
  rw [atI_nat (v:=D.int (La.at' r p))]
  simp [La.at',List.getD,List.getElem?_eq_getElem h]
theorem ixD_row {r:List Int} {p:Nat} (h:p<r.length):ixD (rowD r) (.int (p:Int))=some (.int (La.at' r p)):=atI_row h
theorem at_mem {r:List Int} {a:Int} (h:a∈r):∃ j,La.at' r j=a:=by
  obtain ⟨j,hj,e⟩:=List.mem_iff_getElem.mp h
  exact ⟨j,by simp [La.at',List.getD,List.getElem?_eq_getElem hj,e]⟩
theorem seqG_of {g:DS→Option DF} {G':DS→(DF→Prop)→Prop} {δ δ':DS} {Q:DF→Prop} (h:g δ=some (.nx δ')) (h':G' δ' Q):seqG (ofG g) G' δ Q:=⟨(· = .nx δ'),⟨_,h,rfl⟩,fun fl e=>by subst e;exact h'⟩
theorem ofG_mk {g:DS→Option DF} {δ:DS} {fl:DF} {Q:DF→Prop} (h:g δ=some fl) (h':Q fl):ofG g δ Q:=⟨fl,h,h'⟩
theorem seqG_mk {G G':DS→(DF→Prop)→Prop} {δ:DS} {Q:DF→Prop} (Q1:DS→Prop) (h:G δ fun fl=>∃ δ',fl = .nx δ'∧Q1 δ') (h':∀ δ',Q1 δ'→G' δ' Q):seqG G G' δ Q:=⟨_,h,fun fl ⟨δ',e,q⟩=>by subst e;exact h' δ' q⟩
theorem setL_nx {i:Nat} {f:DS→Option (List D)} {δ:DS} {ds:List D} (h:f δ=some ds):setL i f δ=some (.nx (δ.set i (some (.lst ds)))):=by
  unfold setL
  rw [h];rfl
theorem compD_filter {h:D→DS→Option DS} {fc:DS→Option Bool} {fe:DS→Option D} {ι:Type} (P:DS→Prop) (g:ι→D) (c:ι→Bool) (r:ι→D):∀ (xs:List ι) (δ:DS),P δ →
    (∀ x∈xs,∀ δ,P δ→∃ δ1,h (g x) δ=some δ1∧P δ1∧fc δ1=some (c x)∧(c x=true→fe δ1=some (r x)))→compD h fc fe δ (xs.map g)=some ((xs.filter c).map r)
  | [],_,_,_=>rfl
  | x::xs,δ,hP,hs=>by
    obtain ⟨δ1,e1,p1,e2,e3⟩:=hs x List.mem_cons_self δ hP
    have ih:=compD_filter P g c r xs δ1 p1 fun y hy=>hs y (List.mem_cons_of_mem _ hy)
    rw [List.map_cons]
    unfold compD
    rw [e1,Option.bind_some,e2,Option.bind_some]
    cases hc:c x with
    | true =>
      rw [if_pos rfl,e3 hc,Option.bind_some,ih,List.filter_cons_of_pos hc];rfl
    | false =>
      rw [if_neg (by decide),ih,List.filter_cons_of_neg (by simp [hc])]
def lotD (rows:List (List Int)):D:=.tup (rows.map rowD)
def PlOk (rows:List (List Int)) (w:Nat):Prop:=(∀ r∈rows,r.length=w)∧rows.length≤60∧w≤1000 ∧
  ((∃ b,La.Bd b rows∧La.ss b (min w rows.length)+La.bb b (min w rows.length)<59000000)∨La.IsPl w rows rows)
open Classical in
noncomputable def F_plain:List D→Option D:=fun ds=>if h:∃ (rows:List (List Int)) (w:Nat) (P:List (List Int)),ds=[lotD rows,.int (w:Int)]∧PlOk rows w∧La.IsPl w rows P then some (lotD (Classical.choose (Classical.choose_spec (Classical.choose_spec h)))) else none
theorem rowD_inj {r s:List Int} (h:rowD r=rowD s):r=s:=by
  unfold rowD at h
  injection h with h
  have:∀ (r s:List Int),r.map D.int=s.map D.int→r=s:=by
    intro r
    induction r with
    | nil=>intro s h;cases s with
      | nil=>rfl
      | cons=>simp at h
    | cons a r ih=>intro s h;cases s with
      | nil=>simp at h
      | cons b s =>
        simp only [List.map_cons,List.cons.injEq] at h
        rw [ih s h.2]
        have:=h.1
        injection this with e
        rw [e]
  exact this r s h
theorem rows_inj:∀ {P Q:List (List Int)},P.map rowD=Q.map rowD→P=Q
  | [],[],_=>rfl
  | p::P,q::Q,h=>by
    simp only [List.map_cons,List.cons.injEq] at h
    rw [rowD_inj h.1,rows_inj h.2]
  | [],_::_,h=>by simp at h
  | _::_,[],h=>by simp at h
theorem lotD_inj {P Q:List (List Int)} (h:lotD P=lotD Q):P=Q:=by
  unfold lotD at h
  injection h with h
  exact rows_inj h
theorem F_plain_eq {rows P:List (List Int)} {w:Nat} (h:PlOk rows w) (hp:La.IsPl w rows P):F_plain [lotD rows,.int (w:Int)]=some (lotD P):=by
  have ex:∃ (rows':List (List Int)) (w':Nat) (P':List (List Int)),[lotD rows,D.int (w:Int)]=[lotD rows',.int (w':Int)]∧PlOk rows' w'∧La.IsPl w' rows' P':=⟨rows,w,P,rfl,h,hp⟩
  unfold F_plain
  rw [dif_pos ex]
  have sp:=Classical.choose_spec (Classical.choose_spec (Classical.choose_spec ex))
  generalize Classical.choose (Classical.choose_spec (Classical.choose_spec ex))=P' at sp
  generalize Classical.choose (Classical.choose_spec ex)=w' at sp
  generalize Classical.choose ex=rows' at sp
  obtain ⟨e,_,hp'⟩:=sp
  simp only [List.cons.injEq,and_true] at e
  obtain ⟨e1,e2⟩:=e
  have hr:=lotD_inj e1
  subst hr
  have hw:w=w':=by injection e2 with e2;omega
  subst hw
  rw [hp.uniq hp' (La.Eqv.refl _)]
theorem F_plain_some {ds:List D} {d:D} (h:F_plain ds=some d):∃ (rows:List (List Int)) (w:Nat) (P:List (List Int)),ds=[lotD rows,.int (w:Int)]∧PlOk rows w∧La.IsPl w rows P∧d=lotD P:=by
  unfold F_plain at h
  split at h
  · rename_i ex
    have sp:=Classical.choose_spec (Classical.choose_spec (Classical.choose_spec ex))
    exact ⟨_,_,_,sp.1,sp.2.1,sp.2.2,(Option.some.inj h).symm⟩
  · cases h
end L2
set_option Elab.async false
set_option linter.all false
set_option maxRecDepth 100000
set_option maxHeartbeats 1000000
namespace L2
open PySem PySem.Spec PyProof.Rows
variable {X:Cx} {a b e:Expr} {pos:Pos} {fa fb:DS→Option D} {H₀:Hp} {gh:List (V × D)} {ow ow' owL:List Nat}
def parF (i j:Nat) (fa fb:DS→Option D):DS→Option DF:=fun δ=>(fa δ).bind fun d1=>(fb δ).bind fun d2=>some (.nx ((δ.set i (some d1)).set j (some d2)))
theorem s_par (i j:Nat) {x y:Str} {px py pt pt2:Pos} {kt k2:Nat} (hc:X.calm=true) (hN:X.N.Nodup) (hi:X.N[i]? = some x) (hj:X.N[j]? = some y) (hij:i≠j)
    (hx:X.env.scope.names.lookup x=some .local) (hy:X.env.scope.names.lookup y=some .local) (ha:PA X [a,b] (tDA X.K (consD fa (consD fb nilF))))
    (hw:swappedStores [.Tuple [.Name x px,.Name y py] kt pt] (.Tuple [a,b] k2 pt2) X.env=pure (some [x,y]):=by rfl)
    (hs:swapsWithSole [.Tuple [.Name x px,.Name y py] kt pt] (.Tuple [a,b] k2 pt2) pos.line X.env=pure false:=by rfl) :
    PS X (.Assign [.Tuple [.Name x px,.Name y py] kt pt] (.Tuple [a,b] k2 pt2) pos) (tS X.K H₀ gh ow ((ow.filter (· ≠ i)).filter (· ≠ j)) owL (parF i j fa fb)) :=
  PS.imp (ps_par hc hN hi hj hij hx hy ha hw hs) fun E σ H ⟨δ,fl,so,e,q⟩=>by
  unfold parF at e
  cases e1:fa δ with
  | none=>rw [e1] at e;cases e
  | some d1 =>
    cases e2:fb δ with
    | none=>simp [e1,e2] at e
    | some d2 =>
      rw [e1,Option.bind_some,e2,Option.bind_some] at e
      cases e
      refine ⟨δ,[d1,d2],so.rep,consD_eq e1 (consD_eq e2 rfl),fun vs H' S rs=>?_⟩
      obtain ⟨v1,r1,rfl,q1,rs2⟩:=rs.cons_of
      obtain ⟨v2,r2,rfl,q2,rs3⟩:=rs2.cons_of
      cases rs3.nil_of
      exact ⟨v1,v2,rfl,q _ H' (((so.mono S).set q1 i).set q2 j)⟩
end L2
set_option Elab.async false
set_option linter.all false
set_option maxRecDepth 100000
namespace L2
open PySem PySem.Spec PyProof.Rows
section
variable {X:Cx} {H₀:Hp} {gh:List (V × D)} {ow ow1 ow' owL:List Nat} {a b e:Expr} {es:List Expr} {pos p:Pos} {fa fb:DS→Option D} {st:Stmt} {sts:List Stmt} {g g':DS→Option DF}
def fgF (j:Nat) (g:DS→Option DF):DS→Option DF:=fun δ=>g (δ.set j none)
theorem SOk.forget {K:PySem.W.Frag} {H:Hp} {σ:St} {δ:DS} (so:SOk K H₀ gh ow H σ δ) (j:Nat):SOk K H₀ gh ow H σ (δ.set j none):=by
  refine ⟨so.same,⟨by rw [List.length_set];exact so.rep.1,so.rep.2.1,fun i d e=>?_⟩,so.gr,so.own⟩
  by_cases hj:i=j
  · subst hj
    rw [List.getElem?_set_self'] at e
    cases q:δ[i]? with
    | none=>rw [q] at e;cases e
    | some o=>rw [q] at e;cases e
  · rw [List.getElem?_set_ne (Ne.symm hj)] at e
    exact so.rep.2.2 i d e
theorem s_fg (j:Nat) (h:PS X st (tS X.K H₀ gh ow ow' owL g)):PS X st (tS X.K H₀ gh ow ow' owL (fgF j g)):=PS.imp h fun E σ H ⟨δ,fl,so,e,q⟩=>⟨δ.set j none,fl,so.forget j,e,q⟩
end
end L2
set_option Elab.async false
set_option linter.all false
set_option maxRecDepth 100000
namespace L2
open PySem PySem.Spec PyProof.Rows
end L2
set_option Elab.async false
set_option linter.all false
set_option maxRecDepth 100000
set_option maxHeartbeats 1000000
namespace L2
open PySem PySem.Spec PyProof.Rows
def cxComp1 (X:Cx) (scope:Scope) (N':List Str) (s:Shared) (H:Hp) (fp:List Addr) (C:Addr) (z:Str):Cx where
  prog:=X.prog
  w:=X.w
  K:=X.K
  mg:=X.mg
  base:=X.base
  A:=X.A
  N:=N'
  s₀:=s
  H₀:=H
  env:=compEnvC scope ((z,C+1)::clOf scope X.env) C X.env
  outer:=X.stack
  stack:=X.stack
  ex:=fp
  fn:=fun y=>y==z
  calm:=true
  pn:=[]
  xe:=fun _ _=>False
structure CompSc1 (X:Cx) (scope:Scope) (N':List Str) (inn:List (Option Nat)) (z:Str):Prop where
  kind:scope.kind = .function
  cell1:∀ y∈scope.names,y.2 = .cell→y.1=z
  zc:scope.names.lookup z=some .cell
  lay:∀ (n:Nat) (acc:List (Str × Addr)),cellsFrom n scope.names acc=(z,n)::acc
  psh:∀ h:Heap,pushCells h scope.names=h.push { cls:=.type "cell", data:=.cell none }
  locs:∀ y∈scope.names,y.2 = .local→scope.names.lookup y.1=some .local
  frees:∀ y,(y,NameKind.free)∈scope.names→scope.names.lookup y=some .free∧(X.env.kindOf y=some .cell∨X.env.kindOf y=some .free)
  nd:N'.Nodup
  len:inn.length=N'.length
  inn:∀ (i j:Nat),inn[i]? = some (some j)→∃ y,N'[i]? = some y∧X.N[j]? = some y∧(y,NameKind.free)∈scope.names
theorem newEnv_cell {M:Model} {A:Around} {E:Value→Shared→Prop} {s:Shared} {scope:Scope} {z:Str} {globals:Addr} {cl:List (Str × Addr)} {qual:Str} {env:Env} {Q:Env→Shared→Prop} (hk:scope.kind = .function)
    (lay:∀ (n:Nat) (acc:List (Str × Addr)),cellsFrom n scope.names acc=(z,n)::acc) (psh:∀ h:Heap,pushCells h scope.names=h.push { cls:=.type "cell", data:=.cell none })
    (hQ:∀ h':Heap,h'.Ns s.heap.objs.size (fun _=>none)→h'.IsCell (s.heap.objs.size+1) none→(∀ b o,s.heap.get? b=some o→h'.get? b=some o)→Q { scope:=scope,locals:=s.heap.objs.size,globals:=globals,cells:=(z,s.heap.objs.size+1)::cl,qual:=qual,func:=none,code:=env.code,frame:=env.frame,builtins:=env.builtins } { s with heap:=h',toks:=s.toks }) :
    wpAny M A (newFunctionEnv scope globals cl [] qual none .none (some env)) Q E s:=by
  simp only [newFunctionEnv,Option.isSome_some,if_true]
  refine wpAny_bind (wpAny_alloc ?_)
  refine wpAny_bind (wpAny_layCells _ (fun name kind cells=>by cases hkc:kind==NameKind.cell<;>simp [hkc]) _ _ _ _ ?_)
  rw [lay,psh]
  have hsz:(s.heap.push { cls:=.type "dict", data:=.dict #[] }).objs.size=s.heap.objs.size+1:=Heap.size_push ..
  show wpAny M A _ _ _ _
  rw [show ({ s with heap:=s.heap.push { cls:=.type "dict", data:=.dict #[] } }:Shared).heap.objs.size=s.heap.objs.size+1 from hsz]
  refine wpAny_bind (wpAny_pure (wpAny_pure (hQ _ ?_ ?_ ?_)))
  · exact (Heap.Ns.new s.heap _).push _
  · refine ⟨{ cls:=.type "cell", data:=.cell none },?_,rfl⟩
    rw [← hsz]
    exact Heap.get?_push_size _ rfl
  · exact fun b o e=>Heap.get?_push_of_some _ (Heap.get?_push_of_some _ e)
section
variable {X:Cx} {pins:List (Addr × Obj)} {σ:St} {H:Hp} {s:Shared}
theorem inv_comp1 {scope:Scope} {N':List Str} {inn:List (Option Nat)} {fp:List Addr} {h':Heap} {C:Addr} {z:Str} (S:CompSc1 X scope N' inn z) (I:Inv X pins σ H s) (hc:X.calm=true) (hCs:s.heap.objs.size≤C)
    (hfp:∀ b∈fp,FpOk X pins H b) (hft:∀ b∈fp,b<s.heap.objs.size) (hns:h'.Ns C fun _=>none) (hcc:h'.IsCell (C+1) none) (hk:∀ b o,s.heap.get? b=some o→h'.get? b=some o) (tk:Nat) :
    Inv (cxComp1 X scope N' s H fp C z) [] (innS inn σ) H { s with heap:=h',toks:=tk }:=by
  have hfree:∀ y,(y,NameKind.free)∈scope.names→∃ c,X.env.cells.lookup y=some c:=fun y hy=>I.ok.has y (S.frees y hy).2
  have look0:∀ x c,(clOf scope X.env).lookup x=some c→(x,NameKind.free)∈scope.names∧X.env.cells.lookup x=some c:=fun x c e=>by
    rcases clF_lookup scope.names [] x c e with ⟨h1,h2⟩ | h1
    · obtain ⟨c',hc'⟩:=hfree x h1
      rw [hc'] at h2
      exact ⟨h1,by rw [hc',h2];rfl⟩
    · cases h1
  have look:∀ x c,((z,C+1)::clOf scope X.env).lookup x=some c→(x=z∧c=C+1)∨((x,NameKind.free)∈scope.names∧X.env.cells.lookup x=some c):=fun x c e=>by
    rw [List.lookup_cons] at e
    by_cases hx:(x==z)=true
    · rw [hx] at e
      exact .inl ⟨eq_of_beq hx,(Option.some.inj e).symm⟩
    · have hx':(x==z)=false:=by simpa using hx
      rw [hx'] at e
      exact .inr (look0 x c e)
  have lookN:∀ x c,x≠z→(clOf scope X.env).lookup x=some c→((z,C+1)::clOf scope X.env).lookup x=some c:=fun x c hx e=>by
    rw [List.lookup_cons,show (x==z)=false from by simpa using hx];exact e
  have cellLt:∀ x c,X.env.cells.lookup x=some c→c<s.heap.objs.size:=fun x c e=>by
    obtain ⟨v,o,ho,_⟩:=I.cell x c e
    exact Heap.lt_size ho
  refine ⟨⟨I.ok.mod,?kind,I.ok.glob,I.ok.blt,hCs,?inj,?has,?cab,fun _=>I.ok.hd hc,I.ok.frames,.inl rfl,?exf,I.bs,?bsz,?noex,?exfs,I.stack,I.stkFree⟩,rfl,I.bare,Un.kept hk,⟨_,hns,?loc⟩,?cell,I.hok.fresh hCs,?freeC,?pin,I.hok.kept hk,?len⟩
  case kind=>exact S.kind
  case inj =>
    intro x y c h1 h2
    rcases look x c h1 with ⟨e1,e2⟩ | ⟨_,e1⟩<;>rcases look y c h2 with ⟨e3,e4⟩ | ⟨_,e3⟩
    · rw [e1,e3]
    · exact absurd (cellLt y c e3) (by rw [e2];exact Nat.not_lt.mpr (Nat.le_succ_of_le hCs))
    · exact absurd (cellLt x c e1) (by rw [e4];exact Nat.not_lt.mpr (Nat.le_succ_of_le hCs))
    · exact I.ok.inj x y c e1 e3
  case has =>
    intro x hx
    have hx':(relabel scope X.env).names.lookup x=some .cell∨(relabel scope X.env).names.lookup x=some .free:=hx
    have e:(relabel scope X.env).names.lookup x=(scope.names.lookup x).map fun k=>if (k==NameKind.free&&X.env.scope.kind==.function&&X.env.kindOf x==some .cell) then NameKind.cell else k:=relabel_look scope.names x
    rw [e] at hx'
    cases hl:scope.names.lookup x with
    | none=>rw [hl] at hx';rcases hx' with z | z<;>cases z
    | some k =>
      rw [hl] at hx'
      by_cases hkc:k = .cell
      · have:=S.cell1 (x,k) (PySem.mem_of_lookup hl) hkc
        exact ⟨C+1,by rw [show x=z from this];show List.lookup z ((z,C+1)::_)=_;rw [List.lookup_cons,beq_self_eq_true]⟩
      have hk:k = .free:=by
        by_cases hkf:k = .free
        · exact hkf
        · exfalso
          have hb:(k==NameKind.free)=false:=by simpa using hkf
          simp only [hb,Bool.false_and,if_false,Option.map_some] at hx'
          rcases hx' with z | z
          · have z':k = .cell:=by simpa using z
            exact hkc z'
          · have z':k = .free:=by simpa using z
            exact hkf z'
      subst hk
      obtain ⟨c,e9⟩:=clF_has (env:=X.env) scope.names [] x (.inl (PySem.mem_of_lookup hl))
      exact ⟨c,lookN x c (fun e=>by rw [e,S.zc] at hl;cases hl) e9⟩
  case cab =>
    intro x c h1 h2
    have hx:x=z:=eq_of_beq h1
    subst hx
    have h2':List.lookup x ((x,C+1)::clOf scope X.env)=some c:=h2
    rw [List.lookup_cons,beq_self_eq_true] at h2'
    cases h2'
    exact Nat.le_succ_of_le hCs
  case exf =>
    intro b hb
    exact ⟨Nat.ne_of_lt (Nat.lt_of_lt_of_le (hft b hb) hCs),fun x c e=>by
      rcases look x c e with ⟨_,e2⟩ | ⟨_,e2⟩
      · rw [e2];exact Nat.ne_of_gt (Nat.lt_succ_of_lt (Nat.lt_of_lt_of_le (hft b hb) hCs))
      · exact (hfp b hb).2.2.2.2.1 x c e2⟩
  case bsz=>exact Nat.le_trans I.ok.bsz I.sz
  case noex =>
    intro b o e hb
    have hz:=(hfp b hb)
    rcases hz.2.2.2.1 with z | z
    · exact I.ok.noex b o e z
    · exact absurd (Nat.lt_of_lt_of_le (Heap.lt_size (I.ok.bs b o e).1) z) (Nat.lt_irrefl _)
  case exfs =>
    intro b hb hz
    rcases List.mem_cons.mp (I.stkSub b hz) with z | z
    · exact (hfp b hb).2.1 z
    · exact (hfp b hb).2.2.1 z
  case loc =>
    intro i x v h1 h2 h3
    unfold innS at h2
    rw [List.getElem?_map] at h2
    cases ho:inn[i]? with
    | none=>rw [ho] at h2;cases h2
    | some o =>
      rw [ho] at h2
      cases o with
      | none=>cases h2
      | some j =>
        obtain ⟨y,e1,e2,e3⟩:=S.inn i j ho
        have e4:N'[i]? = some x:=h1
        have e4':y=x:=by rw [e1] at e4;exact Option.some.inj e4
        subst e4'
        have h2':(σ[j]?).join=some v:=by simpa using h2
        have h2'':σ[j]? = some (some v):=by
          cases q:σ[j]? with
          | none=>rw [q] at h2';cases h2'
          | some o=>rw [q] at h2';exact congrArg some h2'
        have vis:Vis X.env.scope y:=.inr (S.frees y e3).2
        obtain ⟨m,hn,hl⟩:=I.loc
        obtain ⟨u,r,l⟩:=hl j y v e2 h2'' vis
        refine ⟨u,r,.inr ⟨?_,?_⟩⟩
        · show (relabel scope X.env).names.lookup y=some .cell∨(relabel scope X.env).names.lookup y=some .free
          rw [show (relabel scope X.env).names.lookup y=(scope.names.lookup y).map fun k=>if (k==NameKind.free&&X.env.scope.kind==.function&&X.env.kindOf y==some .cell) then NameKind.cell else k from relabel_look scope.names y,(S.frees y e3).1]
          simp only [Option.map_some]
          split
          · exact .inl rfl
          · exact .inr rfl
        · rcases l with ⟨k,_⟩ | ⟨_,c,hcl,hcell⟩
          · rcases (S.frees y e3).2 with z | z<;>rw [k] at z<;>cases z
          · obtain ⟨c',hc'⟩:=clF_has (env:=X.env) scope.names [] y (.inl e3)
            have e5:=(look0 y c' hc').2
            rw [hcl] at e5;cases e5
            exact ⟨c,lookN y c (fun e=>by have:=(S.frees y e3).1;rw [e,S.zc] at this;cases this) hc',let ⟨o,ho,hd⟩:=hcell;⟨o,hk _ _ ho,hd⟩⟩
  case cell =>
    intro x c e
    rcases look x c e with ⟨_,e2⟩ | ⟨_,e2⟩
    · rw [e2];exact ⟨_,hcc⟩
    · obtain ⟨v,o,ho,hd⟩:=I.cell x c e2
      exact ⟨v,o,hk _ _ ho,hd⟩
  case freeC =>
    intro x c e
    rcases look x c e with ⟨_,e2⟩ | ⟨_,e2⟩
    · rw [e2];exact I.hok.fresh (Nat.le_succ_of_le hCs)
    · exact I.freeC x c e2
  case pin=>exact fun p hp=>absurd (show p∈([]:List (Addr × Obj)) from hp) (by simp)
  case len =>
    show (innS inn σ).length=N'.length
    unfold innS
    rw [List.length_map,S.len]
end
section
variable {X:Cx} {tg iter elt:Expr} {ifs:List Expr} {scope:Scope} {pos:Pos} {N':List Str} {inn:List (Option Nat)} {fi:DS→Option (List D)} {h:D→DS→Option DS} {fc:DS→Option Bool} {fe:DS→Option D} {ks:List Nat}
theorem comp_block1 {z:Str} (hc:X.calm=true) (S:CompSc1 X scope N' inn z)
    (hin:∀ (s:Shared) (H:Hp) (fp:List Addr) (C:Addr),TgD (cxComp1 X scope N' s H fp C z) tg h ks∧PIfs (cxComp1 X scope N' s H fp C z) ifs fc∧PE (cxComp1 X scope N' s H fp C z) elt (tD X.K fe))
    {pins:List (Addr × Obj)} {σ:St} {H₀:Hp} {δ:DS} {ds ys:List D} {s₂:Shared} {it:Addr} {fp:List Addr} {tn:Nat→Heap→Prop} {J:It} {gh:List (V × D)} {E:Value→Shared→Prop} {RR:Value→Addr→Result→Shared→Prop}
    (I:Inv X pins σ H₀ s₂) (T:Turn X.prog X.w X.K tg J fp it tn) (st:tn 0 s₂.heap) (hfp:∀ b∈fp,FpOk X pins H₀ b) (sr:SRep X.K H₀ σ δ) (hg:GRep X.K H₀ gh) (hJ:ItD X.K J gh ds) (hlen:ds.length≤sizeLine) (hys:compD h fc fe (innD inn δ) ds=some ys)
    (fin:∀ (a C:Addr) (xs:List V) (H':Hp) (s':Shared) (m:Str→Option Value),H₀ a=none→Same H₀ H'→H' a=some (.lst xs)→Reps X.K H' ys xs→Inv X pins σ H' s'→s'.heap.Ns C m→FpOk X pins H' C→RR (.ref a) C (.ok .next) s') :
    wpAny (model X.prog X.w) X.A (newList []) (fun acc s₃=>wpAny (model X.prog X.w) X.A (newFunctionEnv scope X.env.globals (clOf scope X.env) [] X.env.qual none .none (some X.env)) (fun cenv s₄ =>
      codeAny (model X.prog X.w) X.A (.compStart (.ListComp elt [⟨tg,iter,ifs,0⟩] scope pos) 0 (.ref it) acc { cenv with scope:=relabel scope X.env }) (RR acc cenv.locals) s₄) E s₃) E s₂:=by
  have fpLt:∀ b∈fp,b<s₂.heap.objs.size:=fun b hb=>by
    obtain ⟨o,e,_⟩:=T.obj 0 _ st b hb
    exact Heap.lt_size e
  refine wpAny_newObj_type ?_
  have hD:H₀ s₂.heap.objs.size=none:=I.hok.fresh (Nat.le_refl _)
  refine newEnv_cell S.kind S.lay S.psh (fun h₁ hns₁ hcc₁ old₁=>?_)
  dsimp only at hns₁ hcc₁ old₁ ⊢
  generalize hH3:s₂.heap.push { cls:=.type "list", dict:=none,data:=.seq ([]:List Value).toArray }=H3 at hns₁ hcc₁ old₁ ⊢
  have hCe:H3.objs.size=s₂.heap.objs.size+1:=by rw [← hH3,Heap.size_push]
  have hDC:s₂.heap.objs.size≠H3.objs.size:=by rw [hCe];exact Nat.ne_of_lt (Nat.lt_succ_self _)
  have hCle:s₂.heap.objs.size≤H3.objs.size:=by rw [hCe];exact Nat.le_succ _
  have old:∀ b o,s₂.heap.get? b=some o→h₁.get? b=some o:=fun b o e=>old₁ b o (hH3 ▸ Heap.get?_push_of_some _ e)
  have hacc:h₁.PlainList s₂.heap.objs.size #[]:=⟨_,old₁ _ _ (hH3 ▸ Heap.get?_push_size _ rfl)⟩
  have st4:tn 0 h₁:=T.keep _ _ _ st fun b _ o e=>old b o e
  have I4:=inv_comp1 S I hc hCle hfp fpLt hns₁ hcc₁ old s₂.toks
  have sr4:SRep X.K H₀ (innS inn σ) (innD inn δ):=srep_inn inn sr
  obtain ⟨⟨g,hg1,hg2⟩,hif,hel⟩:=hin s₂ H₀ fp H3.objs.size
  generalize hX':cxComp1 X scope N' s₂ H₀ fp H3.objs.size z=X' at I4 hg1 hg2 hif hel
  have e1:X'.prog=X.prog:=by rw [← hX'];rfl
  have e2:X'.w=X.w:=by rw [← hX'];rfl
  have e3:X'.A=X.A:=by rw [← hX'];rfl
  have e4:X'.K=X.K:=by rw [← hX'];rfl
  have e5:X'.calm=true:=by rw [← hX'];rfl
  have e6:X'.env=compEnvC scope ((z,H3.objs.size+1)::clOf scope X.env) H3.objs.size X.env:=by rw [← hX'];rfl
  have e7:X'.xe=fun _ _=>False:=by rw [← hX'];rfl
  have e8:X'.s₀=s₂:=by rw [← hX'];rfl
  have e9:X'.fs=frs X.stack:=by rw [← hX'];rfl
  have e10:X'.pn=[]:=by rw [← hX'];rfl
  have e11:X'.env.locals=H3.objs.size:=by rw [e6];rfl
  have fpx:∀ b∈fp,b∈X'.ex:=fun b hb=>by rw [← hX'];exact hb
  have accOk:∀ {σ':St} {H':Hp} {s':Shared},Inv X' [] σ' H' s'→s₂.heap.objs.size≠X'.env.locals∧s₂.heap.objs.size∉X'.fs∧(s₂.heap.objs.size∈X'.ex∨X'.s₀.heap.objs.size≤s₂.heap.objs.size)∧(∀ x c,X'.env.cells.lookup x=some c→c≠s₂.heap.objs.size):=fun {σ' H' s'} I'=>by
    refine ⟨by rw [e11];exact hDC,?_,.inr (by rw [e8];exact Nat.le_refl _),fun x c e z1=>?_⟩
    · rw [e9]
      intro hb
      rcases List.mem_cons.mp (I.stkSub _ hb) with z | z
      · exact absurd I.lt (by rw [← z];exact Nat.lt_irrefl _)
      · exact I.nofs (Nat.le_refl _) z
    · rw [e6] at e
      have e':List.lookup x ((z,H3.objs.size+1)::clOf scope X.env)=some c:=e
      rw [List.lookup_cons] at e'
      by_cases hx:(x==z)=true
      · rw [hx] at e'
        have e9:H3.objs.size+1=c:=Option.some.inj e'
        exact Nat.ne_of_gt (Nat.lt_succ_of_lt (show s₂.heap.objs.size<H3.objs.size by rw [hCe];exact Nat.lt_succ_self _)) (e9.trans z1)
      · rw [show (x==z)=false by simpa using hx] at e'
        rcases clF_lookup scope.names [] x c e' with ⟨h1,h2⟩ | h1
        · obtain ⟨c',hc'⟩:=I.ok.has x (S.frees x h1).2
          rw [hc'] at h2
          have h2':c=c':=h2
          subst h2'
          obtain ⟨v,o,ho,_⟩:=I.cell x c hc'
          exact absurd (Heap.lt_size ho) (by rw [z1];exact Nat.lt_irrefl _)
        · cases h1
  have loop:∀ s₄:Shared,s₄={ s₂ with heap:=h₁,toks:=s₂.toks } →
      codeAny (model X.prog X.w) X.A (.compLoop (.ListComp elt [⟨tg,iter,ifs,0⟩] scope pos) 0 (.ref it) (.ref s₂.heap.objs.size) (compEnvC scope ((z,H3.objs.size+1)::clOf scope X.env) H3.objs.size X.env)) (RR (.ref s₂.heap.objs.size) H3.objs.size) s₄:=by
    rintro s₄ rfl
    have noPin:∀ p∈X'.pn++([]:List (Addr × Obj)),False:=fun p hp=>by rw [e10] at hp;cases hp
    have stat:∀ {σ':St} {H':Hp} {s':Shared},Inv X' [] σ' H' s'→(∀ b∈fp,H' b=none)→∀ b∈fp,FpOk X' [] H' b:=fun {σ' H' s'} I' hn b hb =>
      ⟨hn b hb,(I'.ok.exf b (fpx b hb)).1,I'.ok.exfs b (fpx b hb),.inl (fpx b hb),fun x c e=>(I'.ok.exf b (fpx b hb)).2 x c e,fun p hp=>(noPin p hp).elim⟩
    refine compLoop_own (fun n s'=>∃ (i:Nat) (σ':St) (H':Hp) (δ':DS) (rest:List D) (us:List V) (its:List Value),Inv X' [] σ' H' s'∧tn i s'.heap∧(∀ b∈fp,H' b=none)∧H' s₂.heap.objs.size=none∧s'.heap.PlainList s₂.heap.objs.size its.toArray∧Vals us its ∧
      n=ds.length+1-i∧i≤ds.length∧ds.drop i=rest∧SRep X.K H' σ' δ' ∧
      GRep X.K H' gh∧Same H₀ H'∧us.length≤i∧∃ ws vs',compD h fc fe δ' rest=some ws∧ys=vs'++ws∧Reps X.K H' vs' us) ?_ (ds.length+1)
      ⟨0,innS inn σ,H₀,innD inn δ,ds,[],[],I4,st4,fun b hb=>(hfp b hb).1,hD,hacc,.nil,rfl,Nat.zero_le _,rfl,sr4,hg,Same.refl _,Nat.zero_le _,ys,[],hys,rfl,reps_nil⟩
    rintro n s' ⟨i,σ',H',δ',rest,us,its,I',st',fr',hDn,hpl,hvs,hn,hi,hrest,sr',hg',same',hul,ws,vs',hws,hyv,hrv⟩
    have hDf:s₂.heap.objs.size∉fp:=fun z=>Nat.lt_irrefl _ (fpLt _ z)
    cases rest with
    | nil =>
      have hil:i=ds.length:=by
        have:=congrArg List.length hrest
        rw [List.length_drop,List.length_nil] at this;omega
      subst hil
      obtain ⟨na,hna⟩:=id hpl
      have I'p:Inv X' ([(s₂.heap.objs.size,_)]) σ' H' s':=I'.pins_of fun p hp=>by
        have e:p=(s₂.heap.objs.size,_):=List.mem_singleton.mp hp
        subst e
        exact ⟨hna,hDn,(accOk I').1,(accOk I').2.1,fun v z=>nomatch z⟩
      have fpo:∀ b∈fp,FpOk X' [(s₂.heap.objs.size,{ cls:=.type "list", data:=.seq its.toArray na })] H' b:=fun b hb=>by
        obtain ⟨f0,f1,f2,f3,f4,f5⟩:=stat I' fr' b hb
        refine ⟨f0,f1,f2,f3,f4,fun p hp=>?_⟩
        rcases List.mem_append.mp hp with z | z
        · exact f5 p (List.mem_append_left _ z)
        · have e:p=_:=List.mem_singleton.mp z
          subst e
          exact Nat.ne_of_gt (fpLt b hb)
      have:=T.done X' e1 e2 e4 e5 _ _ s' σ' H' (fun _ _=>False) I'p fpo st' (hJ.stop H' hg')
      rw [e3] at this
      refine thn this fun r s1 ⟨hr,I1⟩=>?_
      subst hr
      cases hws
      rw [List.append_nil] at hyv
      subst hyv
      have hpin:=(I1.pin _ (List.mem_append_right _ (List.mem_singleton.mpr rfl))).1
      have hb:=I1.base
      have hsz:us.length≤sizeLine:=by omega
      have I6:Inv X pins σ (upd H' s₂.heap.objs.size (.lst us)) s1:=by
        refine I.call' (ch:=fp) ?_ (Un.adopt ?_ (Nat.le_refl _) hD) (HOk.adopt ?_ hDn ⟨hsz,its,na,hvs,hpin⟩) I1.bare ?_
        · have:=I1.os;rw [e8] at this;exact this
        · rw [← hX'] at hb;exact hb
        · have:=I1.hok;rw [e1,e2] at this;exact this
        · intro b hb
          obtain ⟨f0,f1,f2,f3,f4,f5⟩:=hfp b hb
          exact ⟨f3,f1,f4,f5⟩
      obtain ⟨m,hm,_⟩:=I1.loc
      have hfC:=I1.free
      rw [e11] at hm hfC
      have SD:Same H' (upd H' s₂.heap.objs.size (.lst us)):=same_new hDn _
      refine fin _ _ us _ s1 m hD (same'.trans SD) upd_same (hrv.mono SD) I6 hm ?_
      exact I.fpOk hCle (by rw [upd_ne (Ne.symm hDC)];exact hfC)
    | cons d rest =>
      have hlt:i<ds.length:=by
        have:=congrArg List.length hrest
        rw [List.length_drop,List.length_cons] at this;omega
      have hd:ds[i]? = some d∧ds.drop (i+1)=rest:=by
        rw [List.drop_eq_getElem_cons hlt] at hrest
        injection hrest with z1 z2
        exact ⟨by rw [List.getElem?_eq_getElem hlt,z1],z2⟩
      obtain ⟨na,hna⟩:=id hpl
      have I'p:Inv X' ([(s₂.heap.objs.size,{ cls:=.type "list", data:=.seq its.toArray na })]) σ' H' s':=I'.pins_of fun p hp=>by
        have e:p=(s₂.heap.objs.size,_):=List.mem_singleton.mp hp
        subst e
        exact ⟨hna,hDn,(accOk I').1,(accOk I').2.1,fun v z=>nomatch z⟩
      have stat2:∀ {σ':St} {H':Hp} {s':Shared},Inv X' [] σ' H' s'→(∀ b∈fp,H' b=none)→∀ b∈fp,FpOk X' [(s₂.heap.objs.size,{ cls:=.type "list", data:=.seq its.toArray na })] H' b:=fun {σ' H' s'} I' hn b hb=>by
        obtain ⟨f0,f1,f2,f3,f4,f5⟩:=stat I' hn b hb
        refine ⟨f0,f1,f2,f3,f4,fun p hp=>?_⟩
        rcases List.mem_append.mp hp with z | z
        · exact f5 p (List.mem_append_left _ z)
        · have e:p=_:=List.mem_singleton.mp z
          subst e
          exact Nat.ne_of_gt (fpLt b hb)
      have unp:∀ {pl:List (Addr × Obj)} {σ':St} {H':Hp} {s':Shared},Inv X' pl σ' H' s'→Inv X' [] σ' H' s':=fun I'=>I'.pins_of fun p hp=>nomatch hp
      have:=T.item X' e1 e2 e4 e5 i _ s' σ' H' (fun _ _=>False) I'p (stat2 I' fr') st' (hJ.go i H' hg' hlt)
      rw [e3] at this
      refine thn this fun r s1 ⟨u,hr,h1⟩=>?_
      subst hr
      refine thn h1 fun _ s5 ⟨x,H5,I5,r5,y5,st5,fr5⟩=>?_
      obtain ⟨S5,rx⟩:=hJ.yld i H' x H5 d hg' hd.1 y5
      unfold compD at hws
      cases eb:h d δ' with
      | none=>rw [eb] at hws;cases hws
      | some δ1 =>
        rw [eb] at hws
        cases ec:fc δ1 with
        | none=>simp [ec] at hws
        | some c =>
          have I5':=I5.pinned (stat2 (unp I5) fr5) (T.obj _ _ st5)
          have W:=hg1 _ s5 σ' H5 x u (fun σ6 H6=>H6=H5∧SRep X.K H6 σ6 δ1) I5' r5 (by
            refine hg2 x d σ' H5 δ' δ1 _ ?_ ?_ eb fun σ6 sr6 _=>⟨rfl,by rw [e4] at sr6;exact sr6⟩
            · rw [e4];exact rx
            · rw [e4];exact sr'.mono S5)
          rw [e1,e2,e3,e6,e7] at W
          refine thn W fun _ s6 ⟨σ6,H6,I6,hH6,sr6⟩=>?_
          subst hH6
          have W2:=hif _ s6 σ6 H6 (fun b H7=>b=c∧Same H6 H7) I6 (by rw [e4];exact ⟨δ1,c,sr6,ec,fun H7 s7=>⟨rfl,s7⟩⟩)
          rw [e1,e2,e3,e6,e7] at W2
          refine thn W2 fun ok s7 ⟨H7,I7,hok,S7⟩=>?_
          subst hok
          have again:∀ {σ8:St} {H8:Hp} {s8:Shared},Inv X' ([(s₂.heap.objs.size,{ cls:=.type "list", data:=.seq its.toArray na })]++pinsAt fp s5.heap) σ8 H8 s8→Inv X' [] σ8 H8 s8∧tn (i+1) s8.heap∧(∀ b∈fp,H8 b=none)∧s8.heap.get? s₂.heap.objs.size=some { cls:=.type "list", data:=.seq its.toArray na }∧H8 s₂.heap.objs.size=none:=fun {σ8 H8 s8} I8 =>
            ⟨unp I8,T.keep _ _ _ st5 fun b hb o e=>(I8.pin (b,o) (List.mem_append_right _ (List.mem_append_right _ (mem_pinsAt hb e)))).1,fun b hb=>by
              obtain ⟨o,e,_⟩:=T.obj _ _ st5 b hb
              exact (I8.pin (b,o) (List.mem_append_right _ (List.mem_append_right _ (mem_pinsAt hb e)))).2.1,
              (I8.pin _ (List.mem_append_right _ (List.mem_append_left _ (List.mem_singleton.mpr rfl)))).1,(I8.pin _ (List.mem_append_right _ (List.mem_append_left _ (List.mem_singleton.mpr rfl)))).2.1⟩
          have S57:Same H' H7:=S5.trans S7
          cases ok with
          | false =>
            rw [if_neg (by decide)]
            have hws':compD h fc fe δ1 rest=some ws:=by simpa [ec] using hws
            obtain ⟨I8,st8,fr8,ha8,hn8⟩:=again I7
            exact ⟨ds.length+1-(i+1),by omega,i+1,σ6,H7,δ1,rest,us,its,I8,st8,fr8,hn8,⟨na,ha8⟩,hvs,rfl,hlt,hd.2,sr6.mono S7,hg'.mono S57,same'.trans S57,by omega,ws,vs',hws',hyv,hrv.mono S57⟩
          | true =>
            rw [if_pos rfl]
            cases ee:fe δ1 with
            | none=>simp [ec,ee] at hws
            | some z =>
              cases ew:compD h fc fe δ1 rest with
              | none=>simp [ec,ee,ew] at hws
              | some ws' =>
                have hws':z::ws' = ws:=by simpa [ec,ee,ew] using hws
                subst hws'
                have W3:=hel _ s7 σ6 H7 (fun v H8=>Same H7 H8∧Rep X.K H8 z v) I7 ⟨δ1,z,sr6.mono S7,ee,fun v H8 s8 rv=>⟨s8,rv⟩⟩
                rw [e1,e2,e3,e6,e7] at W3
                refine thn W3 fun v8 s8 ⟨vz,H8,I8,rz,S8,rvz⟩=>?_
                have S08:Same H' H8:=S57.trans S8
                obtain ⟨I9,st9,fr9,ha9,hn9⟩:=again I8
                have hil:its.length=us.length:=hvs.length.symm
                refine wpAny_list_append_plain (hsz:=by rw [List.size_toArray];omega) ⟨na,ha9⟩ fun h₅ hl₅ hs₅=>?_
                have a9:=accOk I9
                have I10:Inv X' [] σ6 H8 { s8 with heap:=h₅ }:=I9.turned (t':=s8.toks) (fun b o hb e=>hs₅.extBut b o hb e) hn9 a9.1 a9.2.2.1 a9.2.2.2 fun p hp=>(noPin p hp).elim
                refine ⟨ds.length+1-(i+1),by omega,i+1,σ6,H8,δ1,rest,us++[vz],its++[v8],I10,T.keep _ _ _ st9 fun b hb o e=>hs₅.extBut b o (fun z=>hDf (z ▸ hb)) e,fr9,hn9,by simpa using hl₅,hvs.append (.cons rz .nil),rfl,hlt,hd.2,sr6.mono (S7.trans S8),hg'.mono S08,same'.trans S08,?_,ws',vs'++[z],ew,?_,(hrv.mono S08).append (reps_cons rvz reps_nil)⟩
                · rw [List.length_append,List.length_singleton];omega
                · rw [hyv,List.append_assoc];rfl
  exact codeAny_compStart_list (loop _ rfl) (T.self _ 0 _ _ _ st4 (loop _ rfl))
theorem f_comp1 {z:Str} (hc:X.calm=true) (S:CompSc1 X scope N' inn z) (hi:PI X tg iter (tI X.K fi))
    (hin:∀ (s:Shared) (H:Hp) (fp:List Addr) (C:Addr),TgD (cxComp1 X scope N' s H fp C z) tg h ks∧PIfs (cxComp1 X scope N' s H fp C z) ifs fc∧PE (cxComp1 X scope N' s H fp C z) elt (tD X.K fe))
    (hs:∀ x,foldedSetIterable iter X.env x=pure x:=by intro _;rfl) :
    PE X (.ListComp elt [⟨tg,iter,ifs,0⟩] scope pos) (tF X.K fun δ=>(fi δ).bind fun ds=>compD h fc fe (innD inn δ) ds):=by
  intro pins s σ H Q I ⟨δ,ys,sr,e,q⟩
  try dsimp only at e
  try dsimp only at ef
  cases ei:fi δ with
  | none=>rw [ei] at e;cases e
  | some ds =>
    rw [ei] at e
    have hys:compD h fc fe (innD inn δ) ds=some ys:=e
    have hcl:closureFor scope X.env=pure (clOf scope X.env):=closureFor_clOf fun y hy=>I.ok.has y (S.frees y hy).2
    rw [eval_ListComp]
    refine wpAny_comprehension_free (use:=none) rfl hs hcl S.kind S.locs (thn (hi pins s σ H (fun J H'=>∃ gh,Same H H'∧GRep X.K H' gh∧ItD X.K J gh ds∧ds.length≤sizeLine) I ⟨δ,ds,sr,ei,fun J gh H' s' g i l=>⟨gh,s',g,i,l⟩⟩) fun v s1 h1=>thn h1 fun itv s2 h2=>?_)
    obtain ⟨it,fp,tn,J,H2,rfl,I2,T,st,hfp,gh,S2,hg,hJ,hl⟩:=h2
    refine comp_block1 (RR:=fun acc C=>compPost (model X.prog X.w) X.A X.xe none (EP X pins σ Q) acc C) hc S hin I2 T st hfp (sr.mono S2) hg hJ hl hys ?_
    intro a C xs H' s' m ha S' ha' hr I' hm fC
    refine ⟨m,hm,fun h'' hs''=>?_⟩
    obtain ⟨f0,f1,f2,f3,f4,f5⟩:=fC
    exact ⟨.ref a,H',I'.turned (t':=s'.toks) (fun b o hb e=>hs''.extBut b o hb e) f0 f1 f3 f4 f5,rfl,q a xs H' (S2.free ha) (S2.trans S') ha' hr⟩
theorem d_comp1 {z:Str} (hc:X.calm=true) (S:CompSc1 X scope N' inn z) (hi:PI X tg iter (tI X.K fi))
    (hin:∀ (s:Shared) (H:Hp) (fp:List Addr) (C:Addr),TgD (cxComp1 X scope N' s H fp C z) tg h ks∧PIfs (cxComp1 X scope N' s H fp C z) ifs fc∧PE (cxComp1 X scope N' s H fp C z) elt (tD X.K fe))
    (hs:∀ x,foldedSetIterable iter X.env x=pure x:=by intro _;rfl) :
    PE X (.ListComp elt [⟨tg,iter,ifs,0⟩] scope pos) (tD X.K fun δ=>((fi δ).bind fun ds=>compD h fc fe (innD inn δ) ds).map D.lst):=d_of_f (f_comp1 hc S hi hin hs)
end
def compOk1 (sc scope:Scope) (N N':List Str) (inn:List (Option Nat)) (z:Str):Bool :=
  scope.kind==.function&&scope.names.all (fun y=>y.2 != .cell || y.1==z)&&scope.names.lookup z==some .cell&&scope.names.all (fun y=>y.2 != .local || scope.names.lookup y.1==some .local) &&
  scope.names.all (fun y=>y.2 != .free || (scope.names.lookup y.1==some .free&&(sc.names.lookup y.1==some .cell || sc.names.lookup y.1==some .free))) &&
  decide N'.Nodup&&inn.length==N'.length&&(inn.zip N').all (fun p=>match p.1 with | none=>true | some j=>N[j]?==some p.2&&scope.names.contains (p.2,.free))
theorem compSc1_mk {X:Cx} {scope:Scope} {N':List Str} {inn:List (Option Nat)} (z:Str) (sc:Scope) (N:List Str) (h1:X.env.scope=sc) (h2:X.N=N) (lay:∀ (n:Nat) (acc:List (Str × Addr)),cellsFrom n scope.names acc=(z,n)::acc) (psh:∀ h:Heap,pushCells h scope.names=h.push { cls:=.type "cell", data:=.cell none }) (h:compOk1 sc scope N N' inn z=true):CompSc1 X scope N' inn z:=by
  unfold compOk1 at h
  simp only [Bool.and_eq_true] at h
  obtain ⟨⟨⟨⟨⟨⟨⟨a1,a2⟩,a0⟩,a3⟩,a4⟩,a5⟩,a6⟩,a7⟩:=h
  refine ⟨eq_of_beq a1,fun y hy e=>?_,eq_of_beq a0,lay,psh,fun y hy e=>?_,fun y hy=>?_,of_decide_eq_true a5,eq_of_beq a6,fun i j hi=>?_⟩
  · have:=List.all_eq_true.mp a2 y hy
    rcases Bool.or_eq_true_iff.mp this with z | z
    · simp [e] at z
    · exact eq_of_beq z
  · have:=List.all_eq_true.mp a3 y hy
    rcases Bool.or_eq_true_iff.mp this with z | z
    · simp [e] at z
    · exact eq_of_beq z
  · have:=List.all_eq_true.mp a4 (y,.free) hy
    rcases Bool.or_eq_true_iff.mp this with z | z
    · simp at z
    · obtain ⟨z1,z2⟩:=Bool.and_eq_true_iff.mp z
      refine ⟨eq_of_beq z1,?_⟩
      show X.env.scope.names.lookup y=_∨X.env.scope.names.lookup y=_
      rw [h1]
      rcases Bool.or_eq_true_iff.mp z2 with w | w
      · exact .inl (eq_of_beq w)
      · exact .inr (eq_of_beq w)
  · have hl:inn.length=N'.length:=eq_of_beq a6
    have hi1:i<inn.length:=(List.getElem?_eq_some_iff.mp hi).1
    have hz:(inn.zip N')[i]? = some (some j,N'[i]'(by omega)):=by
      rw [List.getElem?_zip_eq_some]
      exact ⟨hi,List.getElem?_eq_getElem (by omega)⟩
    have:=List.all_eq_true.mp a7 _ (List.mem_of_getElem? hz)
    obtain ⟨z1,z2⟩:=Bool.and_eq_true_iff.mp this
    exact ⟨_,List.getElem?_eq_getElem (by omega),by rw [h2];exact eq_of_beq z1,List.contains_iff_mem.mp z2⟩
end L2
set_option Elab.async false
set_option linter.all false
set_option maxRecDepth 100000
namespace L2
open PySem PySem.Spec PyProof.Rows
section
variable {X:Cx} {a b:Expr} {pos:Pos} {fa fb:DS→Option D}
end
end L2
set_option Elab.async false
set_option linter.all false
set_option maxRecDepth 100000
set_option maxHeartbeats 1000000
namespace L2
open PySem PySem.Spec PyProof.Rows
def shrD:D→D→Option D
  | .int i,.int j=>if 0≤j then some (.int (i / 2 ^ j.toNat)) else none
  | _,_=>none
def bandD:D→D→Option D
  | .int i,.int j=>some (.int (Builtin.bitAnd i j))
  | _,_=>none
def minD:List D→Option D
  | [.int i,.int j]=>some (.int (if j<i then j else i))
  | _=>none
section
variable {X:Cx} {a b e:Expr} {fa fb:DS→Option D} {pos p:Pos}
theorem d_shr (ha:PE X a (tD X.K fa)) (hb:PE X b (tD X.K fb)):PE X (.BinOp a .RShift b pos) (tD X.K (bind2 fa fb shrD)) :=
  d_op op_shr (fun H x y d vx vy Q rx ry e q=>by
    unfold shrD at e
    split at e
    · split at e
      · cases e;exact ⟨_,_,rx.int_of,ry.int_of,‹_›,q _ H (Same.refl H) rep_int⟩
      · cases e
    · cases e) ha hb
theorem d_band (ha:PE X a (tD X.K fa)) (hb:PE X b (tD X.K fb)):PE X (.BinOp a .BitAnd b pos) (tD X.K (bind2 fa fb bandD)) :=
  d_op op_and (fun H x y d vx vy Q rx ry e q=>by
    unfold bandD at e
    split at e
    · cases e;exact ⟨_,_,rx.int_of,ry.int_of,q _ H (Same.refl H) rep_int⟩
    · cases e) ha hb
theorem told_min:ToldC X.K (fun xs H Q=>∃ i j,xs=[.int i,.int j]∧Q (.int (if j<i then j else i)) H) minD:=fun H ds d vs Q rs e q=>by
  unfold minD at e
  split at e
  · cases e
    obtain ⟨v,r,rfl,h1,h2⟩:=rs.cons_of
    obtain ⟨v',r',rfl,h3,h4⟩:=h2.cons_of
    cases h4.nil_of
    cases h1.int_of;cases h3.int_of
    exact ⟨_,_,rfl,q _ H (Same.refl H) rep_int⟩
  · cases e
theorem d_min {fs:DS→Option (List D)} (hc:X.calm=true) (hg:Gl X "min") (hm:X.mg "min" = none) (ha:PA X [e,b] (tDA X.K fs)) (he:starEach [e,b] X.env=(false,eval e X.env)::starEach [b] X.env:=by rfl) (hpl:(backTo pos (starEach [b] X.env)).any (·.1)=false:=by rfl):PE X (.Call (.Name "min" p) [e,b] [] pos) (tD X.K fun δ=>(fs δ).bind minD) :=
  d_callB (call_min2 hc) told_min hg hm boot_min ha (he:=he) (hpl:=hpl)
end
def difD (xs es:List D):Bool:=decide (xs.length≠es.length) || (match xs,es with | .int _::_,.lst _::_=>true | .lst _::_,.int _::_=>true | _,_=>false)
mutual
def apD (es:List D):D→Bool
  | .lst xs=>difD xs es&&apDs es xs
  | .tup xs=>apDs es xs
  | .fro xs=>apDs es xs
  | _=>true
def apDs (es:List D):List D→Bool
  | []=>true
  | d::ds=>apD es d&&apDs es ds
end
theorem dif_no {K:PySem.W.Frag} {H:Hp} {xs es:List D} {us:List V} (h:difD xs es=true) (r1:Reps K H xs us) (r2:Reps K H es us):False:=by
  unfold difD at h
  rcases Bool.or_eq_true_iff.mp h with z | z
  · exact of_decide_eq_true z (r1.length.symm.trans r2.length)
  · split at z
    · obtain ⟨v,r,rfl,h1,_⟩:=r1.cons_of
      obtain ⟨v',r',e,h2,_⟩:=r2.cons_of
      cases e
      cases h1.int_of
      obtain ⟨a,ys,e,_⟩:=h2.lst_of
      cases e
    · obtain ⟨v,r,rfl,h1,_⟩:=r1.cons_of
      obtain ⟨v',r',e,h2,_⟩:=r2.cons_of
      cases e
      cases h2.int_of
      obtain ⟨a,ys,e,_⟩:=h1.lst_of
      cases e
    · cases z
section
variable {K:PySem.W.Frag} {H:Hp} {l:Addr} {vs:List V} {es:List D} {o:HO}
mutual
theorem Rep.updA (hl:H l=some (.lst vs)) (hr:Reps K H es vs):∀ {d:D} {v:V},apD es d=true→Rep K H d v→Rep K (L2.upd H l o) d v
  | .non,_,_,h=>by simpa only [Rep] using h
  | .bl _,_,_,h=>by simpa only [Rep] using h
  | .int _,_,_,h=>by simpa only [Rep] using h
  | .str _,_,_,h=>by simpa only [Rep] using h
  | .ty _,_,_,h=>by simpa only [Rep] using h
  | .lst ds,v,n,h=>by
    have n':difD ds es=true∧apDs es ds=true:=by simpa [apD] using n
    obtain ⟨a,ys,e,q,r⟩:=h.lst_of
    subst e
    have hb:a≠l:=fun z=>by
      subst z
      rw [hl] at q
      cases q
      exact dif_no n'.1 r hr
    exact rep_lst (by rw [upd_ne hb];exact q) (Reps.updA hl hr n'.2 r)
  | .tup ds,v,n,h=>by
    obtain ⟨a,ys,e,q,r⟩:=h.tup_of
    subst e
    exact rep_tup (by rw [upd_ne (ne_of q hl (by intro z;cases z))];exact q) (Reps.updA hl hr (by simpa [apD] using n) r)
  | .fro ds,v,n,h=>by
    obtain ⟨a,ys,e,q,r⟩:=h.fro_of
    subst e
    refine rep_fro ?_ (Reps.updA hl hr (by simpa [apD] using n) r)
    rcases q with ⟨ob,q⟩ | q
    · exact .inl ⟨ob,by rw [upd_ne (ne_of q hl (by intro z;cases z))];exact q⟩
    · exact .inr q
theorem Reps.updA (hl:H l=some (.lst vs)) (hr:Reps K H es vs):∀ {ds:List D} {us:List V},apDs es ds=true→Reps K H ds us→Reps K (L2.upd H l o) ds us
  | [],_,_,h=>by rw [h.nil_of];exact reps_nil
  | d::ds,_,n,h=>by
    obtain ⟨v,r,rfl,q,t⟩:=h.cons_of
    have n':apD es d=true∧apDs es ds=true:=by simpa [apDs] using n
    exact reps_cons (Rep.updA hl hr n'.1 q) (Reps.updA hl hr n'.2 t)
end
end
def apartFrom (i:Nat) (es:List D):Nat→DS→Bool
  | _,[]=>true
  | k,o::r=>(decide (k=i) || (match o with | some d=>apD es d | none=>true))&&apartFrom i es (k+1) r
theorem apartFrom_get {i:Nat} {es:List D}:∀ {k:Nat} {δ:DS},apartFrom i es k δ=true→∀ (j:Nat) (d:D),δ[j]? = some (some d)→k+j≠i→apD es d=true
  | _,[],_,j,d,e,_=>by simp at e
  | k,o::r,h,0,d,e,ne=>by
    simp at e;subst e
    unfold apartFrom at h
    have h1:=(Bool.and_eq_true_iff.mp h).1
    rcases Bool.or_eq_true_iff.mp h1 with z | z
    · exact absurd (of_decide_eq_true z) ne
    · exact z
  | k,o::r,h,j+1,d,e,ne=>by
    unfold apartFrom at h
    exact apartFrom_get (Bool.and_eq_true_iff.mp h).2 j d (by simpa using e) (by omega)
section
variable {X:Cx} {H₀:Hp} {gh:List (V × D)} {ow ow1 ow' owL:List Nat} {a b e:Expr} {es:List Expr} {pos p:Pos} {fa fb:DS→Option D} {st:Stmt} {sts:List Stmt} {g g':DS→Option DF}
theorem SOk.writeA {K:PySem.W.Frag} {H:Hp} {σ:St} {δ:DS} {i:Nat} {l:Addr} {xs ys:List V} {ds ds':List D} (so:SOk K H₀ gh ow H σ δ) (hi:i∈ow) (hσ:σ[i]? = some (some (.ref l))) (hl:H l=some (.lst xs)) (hr:Reps K H ds xs) (ho:apartFrom i ds 0 δ=true) (hgh:∀ p∈gh,noL p.2=true)
    (rs:Reps K H ds' ys) (nl:apDs ds ds' = true):SOk K H₀ gh ow (upd H l (.lst ys)) σ (δ.set i (some (.lst ds'))):=by
  have h0:=so.own i hi l hσ
  refine ⟨fun b o e=>?_,⟨by rw [List.length_set];exact so.rep.1,fun x hx c P e=>(by have z:=so.rep.2.1 x hx c P e;rw [upd_ne (ne_of z hl (by intro q;cases q))];exact z),fun j d e=>?_⟩,fun p hp=>Rep.upd hl (hgh p hp) (so.gr p hp),so.own⟩
  · rw [upd_ne (ne_of_none e h0)];exact so.same b o e
  · by_cases hj:j=i
    · subst hj
      rw [List.getElem?_set_self'] at e
      cases q:δ[j]? with
      | none=>rw [q] at e;cases e
      | some o=>rw [q] at e;cases e;exact ⟨.ref l,hσ,rep_lst upd_same (Reps.updA hl hr nl rs)⟩
    · rw [List.getElem?_set_ne (Ne.symm hj)] at e
      obtain ⟨v,h1,h2⟩:=so.rep.2.2 j d e
      exact ⟨v,h1,Rep.updA hl hr (apartFrom_get ho j d e (by omega)) h2⟩
def appFA (i:Nat) (fa:DS→Option D):DS→Option DF:=fun δ=>(fa δ).bind fun d=>match (δ[i]?).join with
  | some (.lst ds)=>if fit (ds.length+1)=true∧apDs ds (ds++[d])=true∧apartFrom i ds 0 δ=true then some (.nx (δ.set i (some (.lst (ds++[d]))))) else none
  | _=>none
theorem s_appendA (i:Nat) {x:Str} {px pa pc:Pos} (hi:i∈ow) (hN:X.N[i]? = some x) (hv:Vis X.env.scope x) (hgh:∀ p∈gh,noL p.2=true) (ha:PE X a (tD X.K fa))
    (hd:(x==("__debug__" : Str))=false:=by decide) (hcd:(x==("__classdict__" : Str))=false:=by decide)
    (hbase:attributeBase (.Name x px) "append" X.env (eval (.Name x px) X.env)=eval (.Name x px) X.env:=by rfl)
    (hfew:((backTo pc (starEach [a] X.env)).all (fun x=>!x.1)&&(backToKw pc (keywordEach [] X.env)).all (fun x=>x.1.isSome)
      && decide ([a].length+([]:List Keyword).length+(if ([]:List Keyword).isEmpty then 0 else 1)<30))=true:=by rfl)
    (hline:(pa.endLine==pc.line)=true:=by rfl) (hs:starEach [a] X.env=(false,eval a X.env)::starEach [] X.env:=by rfl) (hplain:(backTo pc (starEach [] X.env)).any (·.1)=false:=by rfl) (hsw:swapsWith (.Call (.Attribute (.Name x px) "append" pa) [a] [] pc) none pos.line X.env=pure false:=by rfl) :
    PS X (.Expr (.Call (.Attribute (.Name x px) "append" pa) [a] [] pc) pos) (tS X.K H₀ gh ow ow owL (appFA i fa)) :=
  PS.imp (ps_expr (pe_bm PySem.F.plainAttrs_list PySem.F.slot_list_append PySem.F.type_list_append mt_append (pe_var hN hv hd hcd) (da_cons ha da_nil hs) hbase hfew hline hs hplain) hsw) fun E σ H ⟨δ,fl,so,e,q⟩=>by
    unfold appFA at e
    cases ea:fa δ with
    | none=>rw [ea] at e;cases e
    | some d =>
      rw [ea] at e
      cases eo:(δ[i]?).join with
      | none=>simp [eo] at e
      | some di =>
        obtain ⟨v,h1,h2⟩:=so.rep.get eo
        cases di with
        | lst ds =>
          have e':(if fit (ds.length+1)=true∧apDs ds (ds++[d])=true∧apartFrom i ds 0 δ=true then some (DF.nx (δ.set i (some (.lst (ds++[d]))))) else none)=some fl:=by simpa [eo] using e
          by_cases hc:fit (ds.length+1)=true∧apDs ds (ds++[d])=true∧apartFrom i ds 0 δ=true
          · rw [if_pos hc] at e'
            cases e'
            obtain ⟨l,us,rfl,hl,rs⟩:=h2.lst_of
            refine ⟨.ref l,h1,.inl ⟨rfl,us,SqL.of hl⟩,δ,[d],so.rep,by simp [consD,ea],fun vs H' S rv=>?_⟩
            obtain ⟨w,r,rfl,rw',rn⟩:=rv.cons_of
            cases rn.nil_of
            have hz:=fit_le hc.1
            refine ⟨l,us,w,rfl,rfl,S _ _ hl,by rw [rs.length];omega,?_⟩
            exact q _ _ ((so.mono S).writeA hi h1 (S _ _ hl) (rs.mono S) hc.2.2 hgh ((rs.mono S).append (reps_cons rw' reps_nil)) hc.2.1)
          · rw [if_neg hc] at e';cases e'
        | _=>simp [eo] at e
end
theorem ss_none {X:Cx} {sts:List Stmt} {H₀:Hp} {gh:List (V × D)} {ow ow' owL:List Nat}:PSs X sts (tS X.K H₀ gh ow ow' owL fun _=>none):=fun pins s σ H E I ⟨δ,fl,so,e,q⟩=>by cases e
end L2
set_option maxHeartbeats 4000000
namespace L2.k15
open PySem L2
def top (i:Nat):Stmt:=PySem.Challenge.pw_rowwright_k15_grades.main.body.getD i (.Pass ⟨0,0,0,0⟩)
structure Bl (P:Program) (mg:Str→Option Value):Prop where
  tree:P.given.tree=none
  b_abs:mg "abs" = none
  b_all:mg "all" = none
  b_bool:mg "bool" = none
  b_enumerate:mg "enumerate" = none
  b_int:mg "int" = none
  b_isinstance:mg "isinstance" = none
  b_len:mg "len" = none
  b_list:mg "list" = none
  b_min:mg "min" = none
  b_range:mg "range" = none
  b_sorted:mg "sorted" = none
  b_tuple:mg "tuple" = none
  b_zip:mg "zip" = none
section
variable {P:Program} {w:World} {K:PySem.W.Frag} {mg:Str→Option Value} {base:Heap} {f:Addr} {fd:FuncData}
abbrev s_lead_place:Stmt:=top 1
noncomputable def g_lead_place:DS→Option DF:=(seqF (setF 1 (cF (.int 0))) (seqF (whF (andT (bT (bind2 (vF 1) (callF (consD (vF 0) nilF) lenD) ltD)) (bT (bind2 (bind2 (vF 0) (vF 1) ixD) (cF (.int 0)) eqD))) (setF 1 (bind2 (vF 1) (cF (.int 1)) addD))) (retF (vF 1))))
noncomputable def F_lead_place:List D→Option D:=runD 1 ["row", "place"] g_lead_place
theorem sc_lead_place:FnScope ["row", "place"] ["row"] (defScope s_lead_place):=⟨rfl,rfl,rfl,by decide +kernel,rfl,by decide +kernel,by decide +kernel⟩
theorem ok_lead_place (B:Bl P mg) (F:Fun K "lead_place" "lead_place" s_lead_place f fd) (hm:mg "lead_place" = some (.ref f))  : Ca P w K mg base 1 "lead_place" F_lead_place :=
  def_ok (g:=g_lead_place) F sc_lead_place hm (F.binds fun _ _ _ _ _ _ us hl=>match us,hl with | [_],_=>rfl) fun cdv A outer s H E hr=>⟨[],(s_cons (s_set 1 sc_lead_place.nd rfl (by first | exact Or.inl rfl | exact Or.inr rfl) d_int) (s_cons (s_whileF PassesOwn.never (PW.pt (w_and (t_lt (d_var 1) (d_len rfl B.b_len (da_cons (d_var 0) da_nil))) (PT.pw_and1 (t_eq hr (d_ix (d_var 0) (d_var 1)) d_int)))) (s_one (s_set 1 sc_lead_place.nd rfl (by first | exact Or.inl rfl | exact Or.inr rfl) (d_add (d_var 1) d_int)))) (s_one (s_ret (d_var 1)))))⟩
abbrev s_column:Stmt:=top 2
noncomputable def g_column:DS→Option DF:=(retF (callF (consD (lstF (compF (itF (vF 0)) (bind1 0) yesT (bind2 (vF 0) (vF 1) ixD) [none,some 1])) nilF) tupleD))
noncomputable def F_column:List D→Option D:=runD 2 ["lot", "place"] g_column
theorem sc_column:FnScope ["lot", "place"] ["lot", "place"] (defScope s_column):=⟨rfl,rfl,rfl,by decide +kernel,rfl,by decide +kernel,by decide +kernel⟩
theorem ok_column (B:Bl P mg) (F:Fun K "column" "column" s_column f fd) (hm:mg "column" = some (.ref f))  : Ca P w K mg base 1 "column" F_column :=
  def_ok (g:=g_column) F sc_column hm (F.binds fun _ _ _ _ _ _ us hl=>match us,hl with | [_,_],_=>rfl) fun cdv A outer s H E hr=>⟨[],(s_one (s_ret (d_tuple rfl B.b_tuple (da_cons (d_comp rfl (compSc_mk (N':=["row", "place"]) (inn:=[none,some 1]) (defScope s_column) ["lot", "place"] rfl rfl (by decide +kernel)) (i_seq (d_var 0)) (fun _ _ _ _=>⟨(g_name (i:=0) (show (["row", "place"]:List Str).Nodup by decide +kernel) rfl (by first | exact Or.inl rfl | exact Or.inr rfl)),ifs_nil,(d_ix (d_var 0) (d_var 1))⟩)) da_nil))))⟩
abbrev s_upright:Stmt:=top 3
noncomputable def g_upright:DS→Option DF:=(retF (callF (consD (lstF (compF (fsF (consD (vF 1) nilF) range1D) (bind1 0) yesT (callF (consD (vF 1) (consD (vF 0) nilF)) F_column) [none,some 0])) nilF) tupleD))
noncomputable def F_upright:List D→Option D:=runD 2 ["lot", "wide"] g_upright
theorem sc_upright:FnScope ["lot", "wide"] ["lot", "wide"] (defScope s_upright):=⟨rfl,rfl,rfl,by decide +kernel,rfl,by decide +kernel,by decide +kernel⟩
theorem ok_upright (B:Bl P mg) (F:Fun K "upright" "upright" s_upright f fd) (hm:mg "upright" = some (.ref f)) (c_column:Ca P w K mg base 1 "column" F_column):Ca P w K mg base 2 "upright" F_upright :=
  def_ok (g:=g_upright) F sc_upright hm (F.binds fun _ _ _ _ _ _ us hl=>match us,hl with | [_,_],_=>rfl) fun cdv A outer s H E hr=>⟨[],(s_one (s_ret (d_tuple rfl B.b_tuple (da_cons (d_comp rfl (compSc_mk (N':=["place", "lot"]) (inn:=[none,some 0]) (defScope s_upright) ["lot", "wide"] rfl rfl (by decide +kernel)) (i_of_r (r_range1 rfl B.b_range (da_cons (d_var 1) da_nil))) (fun _ _ _ _=>⟨(g_name (i:=0) (show (["place", "lot"]:List Str).Nodup by decide +kernel) rfl (by first | exact Or.inl rfl | exact Or.inr rfl)),ifs_nil,(d_call c_column hr rfl (da_cons (d_var 1) (da_cons (d_var 0) da_nil)))⟩)) da_nil))))⟩
abbrev s_common_divisor:Stmt:=top 4
noncomputable def g_common_divisor:DS→Option DF:=(seqF (setF 2 (callF (consD (vF 0) nilF) absD)) (seqF (setF 3 (callF (consD (vF 1) nilF) absD)) (seqF (whF (bT (bind2 (vF 3) (cF (.int 0)) neD)) (seqF (setF 4 (bind2 (vF 2) (vF 3) modD)) (seqF (setF 2 (vF 3)) (setF 3 (vF 4))))) (retF (vF 2)))))
noncomputable def F_common_divisor:List D→Option D:=runD 2 ["one", "other", "great", "small", "left"] g_common_divisor
theorem sc_common_divisor:FnScope ["one", "other", "great", "small", "left"] ["one", "other"] (defScope s_common_divisor):=⟨rfl,rfl,rfl,by decide +kernel,rfl,by decide +kernel,by decide +kernel⟩
theorem ok_common_divisor (B:Bl P mg) (F:Fun K "common_divisor" "common_divisor" s_common_divisor f fd) (hm:mg "common_divisor" = some (.ref f))  : Ca P w K mg base 1 "common_divisor" F_common_divisor :=
  def_ok (g:=g_common_divisor) F sc_common_divisor hm (F.binds fun _ _ _ _ _ _ us hl=>match us,hl with | [_,_],_=>rfl) fun cdv A outer s H E hr=>⟨[],(s_cons (s_set 2 sc_common_divisor.nd rfl (by first | exact Or.inl rfl | exact Or.inr rfl) (d_abs rfl B.b_abs (da_cons (d_var 0) da_nil))) (s_cons (s_set 3 sc_common_divisor.nd rfl (by first | exact Or.inl rfl | exact Or.inr rfl) (d_abs rfl B.b_abs (da_cons (d_var 1) da_nil))) (s_cons (s_whileF PassesOwn.never (t_ne hr (d_var 3) d_int) (s_cons (s_set 4 sc_common_divisor.nd rfl (by first | exact Or.inl rfl | exact Or.inr rfl) (d_mod (d_var 2) (d_var 3))) (s_cons (s_set 2 sc_common_divisor.nd rfl (by first | exact Or.inl rfl | exact Or.inr rfl) (d_var 3)) (s_one (s_set 3 sc_common_divisor.nd rfl (by first | exact Or.inl rfl | exact Or.inr rfl) (d_var 4)))))) (s_one (s_ret (d_var 2))))))⟩
abbrev s_less:Stmt:=top 6
noncomputable def g_less:DS→Option DF:=(retF (callF (consD (lstF (compF (fsF (consD (vF 0) (consD (vF 2) nilF)) zip2) (bindP 0 1) yesT (bind2 (vF 0) (bind2 (vF 2) (vF 1) mulD) subD) [none,none,some 1])) nilF) tupleD))
noncomputable def F_less:List D→Option D:=runD 3 ["row", "times", "other"] g_less
theorem sc_less:FnScope ["row", "times", "other"] ["row", "times", "other"] (defScope s_less):=⟨rfl,rfl,rfl,by decide +kernel,rfl,by decide +kernel,by decide +kernel⟩
theorem ok_less (B:Bl P mg) (F:Fun K "less" "less" s_less f fd) (hm:mg "less" = some (.ref f))  : Ca P w K mg base 1 "less" F_less :=
  def_ok (g:=g_less) F sc_less hm (F.binds fun _ _ _ _ _ _ us hl=>match us,hl with | [_,_,_],_=>rfl) fun cdv A outer s H E hr=>⟨[],(s_one (s_ret (d_tuple rfl B.b_tuple (da_cons (d_comp rfl (compSc_mk (N':=["number", "part", "times"]) (inn:=[none,none,some 1]) (defScope s_less) ["row", "times", "other"] rfl rfl (by decide +kernel)) (i_zip rfl B.b_zip (da_cons (d_var 0) (da_cons (d_var 2) da_nil))) (fun _ _ _ _=>⟨(g_pair (i:=0) (j:=1) rfl (show (["number", "part", "times"]:List Str).Nodup by decide +kernel) rfl rfl (by first | exact Or.inl rfl | exact Or.inr rfl) (by first | exact Or.inl rfl | exact Or.inr rfl)),ifs_nil,(d_sub (d_var 0) (d_mul (d_var 2) (d_var 1)))⟩)) da_nil))))⟩
abbrev s_lowered:Stmt:=top 7
noncomputable def g_lowered:DS→Option DF:=(retF (callF (consD (vF 0) (consD (bind2 (bind2 (vF 0) (vF 2) ixD) (bind2 (vF 1) (vF 2) ixD) fdivD) (consD (vF 1) nilF))) F_less))
noncomputable def F_lowered:List D→Option D:=runD 3 ["row", "line", "place"] g_lowered
theorem sc_lowered:FnScope ["row", "line", "place"] ["row", "line", "place"] (defScope s_lowered):=⟨rfl,rfl,rfl,by decide +kernel,rfl,by decide +kernel,by decide +kernel⟩
theorem ok_lowered (B:Bl P mg) (F:Fun K "lowered" "lowered" s_lowered f fd) (hm:mg "lowered" = some (.ref f)) (c_less:Ca P w K mg base 1 "less" F_less):Ca P w K mg base 2 "lowered" F_lowered :=
  def_ok (g:=g_lowered) F sc_lowered hm (F.binds fun _ _ _ _ _ _ us hl=>match us,hl with | [_,_,_],_=>rfl) fun cdv A outer s H E hr=>⟨[],(s_one (s_ret (d_call c_less hr rfl (da_cons (d_var 0) (da_cons (d_fdiv hr B.tree (d_ix (d_var 0) (d_var 2)) (d_ix (d_var 1) (d_var 2))) (da_cons (d_var 1) da_nil))))))⟩
abbrev s_gathered:Stmt:=top 8
noncomputable def g_gathered:DS→(DF→Prop)→Prop:=(seqG (ofG (setL 2 (compF (itF (vF 0)) (bind1 0) (bT (bind2 (bind2 (vF 0) (vF 1) ixD) (cF (.int 0)) eqD)) (vF 0) [none,some 1]))) (seqG (ofG (setF 3 (lstF (compF (itF (vF 0)) (bind1 0) (bT (bind2 (bind2 (vF 0) (vF 1) ixD) (cF (.int 0)) neD)) (vF 0) [none,some 1])))) (seqG (whileG (bT (bind2 (callF (consD (vF 3) nilF) lenD) (cF (.int 1)) gtD)) (seqG (sortG 3 (vF 3) (callF (consD (bind2 (vF 0) (vF 1) ixD) nilF) absD) [none,some 1]) (seqG (ofG (setL 4 (compF (itF (slF (vF 3) (oS (cF (.int 1))) oN)) (bind1 0) yesT (callF (consD (vF 0) (consD (bind2 (vF 2) (cF (.int 0)) ixD) (consD (vF 1) nilF))) F_lowered) [none,some 1,some 3]))) (seqG (ofG (setF 2 (bind2 (vF 2) (lstF (compF (itF (vF 4)) (bind1 0) (bT (bind2 (bind2 (vF 0) (vF 1) ixD) (cF (.int 0)) eqD)) (vF 0) [none,some 1])) addD))) (ofG (setF 3 (bind2 (lstF (dispF (consD (bind2 (vF 3) (cF (.int 0)) ixD) nilF))) (lstF (compF (itF (vF 4)) (bind1 0) (bT (bind2 (bind2 (vF 0) (vF 1) ixD) (cF (.int 0)) neD)) (vF 0) [none,some 1])) addD))))))) (ofG (retF (bind2 (vF 3) (vF 2) addD))))))
noncomputable def R_gathered:List D→(D→Prop)→Prop:=runR 2 ["rows", "place", "clear", "busy", "left"] g_gathered
theorem sc_gathered:FnScope ["rows", "place", "clear", "busy", "left"] ["rows", "place"] (defScope s_gathered):=⟨rfl,rfl,rfl,by decide +kernel,rfl,by decide +kernel,by decide +kernel⟩
theorem ok_gathered {cA pA:Addr} (B:Bl P mg) (F:Fun K "gathered" "gathered" s_gathered f fd) (hm:mg "gathered" = some (.ref f)) (hfc:fd.code = .ref cA) (tt:PySem.W.tabIn K "gathered" = some (cA,pA)) (c_lowered:Ca P w K mg base 2 "lowered" F_lowered):CaR P w K mg base 3 "gathered" R_gathered :=
  def_okR (G:=g_gathered) F sc_gathered hm (F.binds fun _ _ _ _ _ _ us hl=>match us,hl with | [_,_],_=>rfl) fun cdv A outer s H E hcd hM hr=>⟨[],(r_cons (r_of (s_drop [] (by decide) (s_comp 2 sc_gathered.nd rfl (by first | exact Or.inl rfl | exact Or.inr rfl) rfl rfl (compSc_mk (N':=["row", "place"]) (inn:=[none,some 1]) (defScope s_gathered) ["rows", "place", "clear", "busy", "left"] rfl rfl (by decide +kernel)) (i_seq (d_var 0)) (fun _ _ _ _=>⟨(g_name (i:=0) (show (["row", "place"]:List Str).Nodup by decide +kernel) rfl (by first | exact Or.inl rfl | exact Or.inr rfl)),(ifs_one (t_eq hr (d_ix (d_var 0) (d_var 1)) d_int)),(d_var 0)⟩)))) (r_cons (r_of (s_set 3 sc_gathered.nd rfl (by first | exact Or.inl rfl | exact Or.inr rfl) (d_comp rfl (compSc_mk (N':=["row", "place"]) (inn:=[none,some 1]) (defScope s_gathered) ["rows", "place", "clear", "busy", "left"] rfl rfl (by decide +kernel)) (i_seq (d_var 0)) (fun _ _ _ _=>⟨(g_name (i:=0) (show (["row", "place"]:List Str).Nodup by decide +kernel) rfl (by first | exact Or.inl rfl | exact Or.inr rfl)),(ifs_one (t_ne hr (d_ix (d_var 0) (d_var 1)) d_int)),(d_var 0)⟩)))) (r_cons (r_while PassesOwn.never (t_gt (d_len rfl B.b_len (da_cons (d_var 3) da_nil)) d_int) (r_cons (r_drop [] (by decide) (r_sort 3 sc_gathered.nd rfl (by first | exact Or.inl rfl | exact Or.inr rfl) (pe_sorted (x := "gathered") rfl rfl B.b_sorted (d_var 3) (by decide) tt (hM.lam _ (by decide) _ _ tt) rfl (hcd.symm.trans hfc) rfl (lamSc_mk (N':=["row", "place"]) (inn:=[none,some 1]) (par := "row") (defScope s_gathered) ["rows", "place", "clear", "busy", "left"] rfl rfl (by decide +kernel)) (fun _ _ _ _=>(d_abs rfl B.b_abs (da_cons (d_ix (d_var 0) (d_var 1)) da_nil))) (fun _ _ _ _ _=>rfl) hr.depth))) (r_cons (r_of (s_drop [] (by decide) (s_comp 4 sc_gathered.nd rfl (by first | exact Or.inl rfl | exact Or.inr rfl) rfl rfl (compSc_mk (N':=["row", "place", "busy"]) (inn:=[none,some 1,some 3]) (defScope s_gathered) ["rows", "place", "clear", "busy", "left"] rfl rfl (by decide +kernel)) (i_seq (d_slice (d_var 3) (o_some d_int) o_none)) (fun _ _ _ _=>⟨(g_name (i:=0) (show (["row", "place", "busy"]:List Str).Nodup by decide +kernel) rfl (by first | exact Or.inl rfl | exact Or.inr rfl)),ifs_nil,(d_call c_lowered hr rfl (da_cons (d_var 0) (da_cons (d_ix (d_var 2) d_int) (da_cons (d_var 1) da_nil))))⟩)))) (r_cons (r_of (s_set 2 sc_gathered.nd rfl (by first | exact Or.inl rfl | exact Or.inr rfl) (d_add (d_var 2) (d_comp rfl (compSc_mk (N':=["row", "place"]) (inn:=[none,some 1]) (defScope s_gathered) ["rows", "place", "clear", "busy", "left"] rfl rfl (by decide +kernel)) (i_seq (d_var 4)) (fun _ _ _ _=>⟨(g_name (i:=0) (show (["row", "place"]:List Str).Nodup by decide +kernel) rfl (by first | exact Or.inl rfl | exact Or.inr rfl)),(ifs_one (t_eq hr (d_ix (d_var 0) (d_var 1)) d_int)),(d_var 0)⟩))))) (r_one (r_of (s_set 3 sc_gathered.nd rfl (by first | exact Or.inl rfl | exact Or.inr rfl) (d_add (d_lst (da_cons (d_ix (d_var 3) d_int) da_nil)) (d_comp rfl (compSc_mk (N':=["row", "place"]) (inn:=[none,some 1]) (defScope s_gathered) ["rows", "place", "clear", "busy", "left"] rfl rfl (by decide +kernel)) (i_seq (d_var 4)) (fun _ _ _ _=>⟨(g_name (i:=0) (show (["row", "place"]:List Str).Nodup by decide +kernel) rfl (by first | exact Or.inl rfl | exact Or.inr rfl)),(ifs_one (t_ne hr (d_ix (d_var 0) (d_var 1)) d_int)),(d_var 0)⟩)))))))))) (r_one (r_of (s_ret (d_add (d_var 3) (d_var 2))))))))⟩
abbrev s_stacked:Stmt:=top 9
noncomputable def g_stacked:DS→Option DF:=(seqF (setF 3 (vF 1)) (seqF (ifF (bT (bind2 (bind2 (vF 1) (vF 2) ixD) (cF (.int 0)) ltD)) (setF 3 (callF (consD (lstF (compF (itF (vF 1)) (bind1 0) yesT (unF (vF 0) negD) [none])) nilF) tupleD)) nxF) (retF (bind2 (lstF (compF (itF (vF 0)) (bind1 0) yesT (callF (consD (vF 0) (consD (vF 1) (consD (vF 2) nilF))) F_lowered) [none,some 3,some 2])) (lstF (dispF (consD (vF 3) nilF))) addD))))
noncomputable def F_stacked:List D→Option D:=runD 3 ["stack", "row", "place", "line"] g_stacked
theorem sc_stacked:FnScope ["stack", "row", "place", "line"] ["stack", "row", "place"] (defScope s_stacked):=⟨rfl,rfl,rfl,by decide +kernel,rfl,by decide +kernel,by decide +kernel⟩
theorem ok_stacked (B:Bl P mg) (F:Fun K "stacked" "stacked" s_stacked f fd) (hm:mg "stacked" = some (.ref f)) (c_lowered:Ca P w K mg base 2 "lowered" F_lowered):Ca P w K mg base 3 "stacked" F_stacked :=
  def_ok (g:=g_stacked) F sc_stacked hm (F.binds fun _ _ _ _ _ _ us hl=>match us,hl with | [_,_,_],_=>rfl) fun cdv A outer s H E hr=>⟨[],(s_cons (s_set 3 sc_stacked.nd rfl (by first | exact Or.inl rfl | exact Or.inr rfl) (d_var 1)) (s_cons (s_if (t_lt (d_ix (d_var 1) (d_var 2)) d_int) (s_one (s_set 3 sc_stacked.nd rfl (by first | exact Or.inl rfl | exact Or.inr rfl) (d_tuple rfl B.b_tuple (da_cons (d_comp rfl (compSc_mk (N':=["number"]) (inn:=[none]) (defScope s_stacked) ["stack", "row", "place", "line"] rfl rfl (by decide +kernel)) (i_seq (d_var 1)) (fun _ _ _ _=>⟨(g_name (i:=0) (show (["number"]:List Str).Nodup by decide +kernel) rfl (by first | exact Or.inl rfl | exact Or.inr rfl)),ifs_nil,(d_neg (d_var 0))⟩)) da_nil)))) s_nil) (s_one (s_ret (d_add (d_comp rfl (compSc_mk (N':=["ahead", "line", "place"]) (inn:=[none,some 3,some 2]) (defScope s_stacked) ["stack", "row", "place", "line"] rfl rfl (by decide +kernel)) (i_seq (d_var 0)) (fun _ _ _ _=>⟨(g_name (i:=0) (show (["ahead", "line", "place"]:List Str).Nodup by decide +kernel) rfl (by first | exact Or.inl rfl | exact Or.inr rfl)),ifs_nil,(d_call c_lowered hr rfl (da_cons (d_var 0) (da_cons (d_var 1) (da_cons (d_var 2) da_nil))))⟩)) (d_lst (da_cons (d_var 3) da_nil)))))))⟩
abbrev s_plain:Stmt:=top 10
noncomputable def g_plain:DS→(DF→Prop)→Prop:=(seqG (ofG (setF 2 (lstF (dispF nilF)))) (seqG (ofG (setF 3 (lstF (fsF (consD (vF 0) nilF) list1)))) (seqG (forG (fsF (consD (vF 1) nilF) range1D) (bind1 4) (seqG (callG 3 (consD (vF 3) (consD (vF 4) nilF)) R_gathered) (ofG (ifF (andT (bT (bind2 (callF (consD (vF 3) nilF) lenD) (cF (.int 0)) gtD)) (bT (bind2 (bind2 (bind2 (vF 3) (cF (.int 0)) ixD) (vF 4) ixD) (cF (.int 0)) neD))) (seqF (setF 2 (callF (consD (vF 2) (consD (bind2 (vF 3) (cF (.int 0)) ixD) (consD (vF 4) nilF))) F_stacked)) (setF 3 (slF (vF 3) (oS (cF (.int 1))) oN))) nxF)))) (ofG (retF (callF (consD (vF 2) nilF) tupleD))))))
noncomputable def R_plain:List D→(D→Prop)→Prop:=runR 2 ["lot", "wide", "stack", "rows", "place"] g_plain
theorem sc_plain:FnScope ["lot", "wide", "stack", "rows", "place"] ["lot", "wide"] (defScope s_plain):=⟨rfl,rfl,rfl,by decide +kernel,rfl,by decide +kernel,by decide +kernel⟩
theorem ok_plain (B:Bl P mg) (F:Fun K "plain" "plain" s_plain f fd) (hm:mg "plain" = some (.ref f)) (c_gathered:CaR P w K mg base 3 "gathered" R_gathered) (c_stacked:Ca P w K mg base 3 "stacked" F_stacked):CaR P w K mg base 4 "plain" R_plain :=
  def_okR (G:=g_plain) F sc_plain hm (F.binds fun _ _ _ _ _ _ us hl=>match us,hl with | [_,_],_=>rfl) fun cdv A outer s H E hcd hM hr=>⟨[],(r_cons (r_of (s_set 2 sc_plain.nd rfl (by first | exact Or.inl rfl | exact Or.inr rfl) (d_lst da_nil))) (r_cons (r_of (s_set 3 sc_plain.nd rfl (by first | exact Or.inl rfl | exact Or.inr rfl) (d_list rfl B.b_list (da_cons (d_var 0) da_nil)))) (r_cons (r_forR PassesOwn.never rfl (r_range1 rfl B.b_range (da_cons (d_var 1) da_nil)) (g_name (i:=4) sc_plain.nd rfl (by first | exact Or.inl rfl | exact Or.inr rfl)) (by decide) (r_cons (r_call 3 sc_plain.nd rfl (by first | exact Or.inl rfl | exact Or.inr rfl) c_gathered hr rfl (da_cons (d_var 3) (da_cons (d_var 4) da_nil))) (r_one (r_of (s_if (PW.pt (w_and (t_gt (d_len rfl B.b_len (da_cons (d_var 3) da_nil)) d_int) (PT.pw_and1 (t_ne hr (d_ix (d_ix (d_var 3) d_int) (d_var 4)) d_int)))) (s_cons (s_set 2 sc_plain.nd rfl (by first | exact Or.inl rfl | exact Or.inr rfl) (d_call c_stacked hr rfl (da_cons (d_var 2) (da_cons (d_ix (d_var 3) d_int) (da_cons (d_var 4) da_nil))))) (s_one (s_set 3 sc_plain.nd rfl (by first | exact Or.inl rfl | exact Or.inr rfl) (d_slice (d_var 3) (o_some d_int) o_none)))) s_nil))))) (r_one (r_of (s_ret (d_tuple rfl B.b_tuple (da_cons (d_var 2) da_nil))))))))⟩
abbrev s_leads:Stmt:=top 12
noncomputable def g_leads:DS→Option DF:=(retF (lstF (compF (itF (vF 0)) (bind1 0) yesT (bind2 (vF 0) (callF (consD (vF 0) nilF) F_lead_place) ixD) [none])))
noncomputable def F_leads:List D→Option D:=runD 1 ["lines"] g_leads
theorem sc_leads:FnScope ["lines"] ["lines"] (defScope s_leads):=⟨rfl,rfl,rfl,by decide +kernel,rfl,by decide +kernel,by decide +kernel⟩
theorem ok_leads (B:Bl P mg) (F:Fun K "leads" "leads" s_leads f fd) (hm:mg "leads" = some (.ref f)) (c_lead_place:Ca P w K mg base 1 "lead_place" F_lead_place):Ca P w K mg base 2 "leads" F_leads :=
  def_ok (g:=g_leads) F sc_leads hm (F.binds fun _ _ _ _ _ _ us hl=>match us,hl with | [_],_=>rfl) fun cdv A outer s H E hr=>⟨[],(s_one (s_ret (d_comp rfl (compSc_mk (N':=["line"]) (inn:=[none]) (defScope s_leads) ["lines"] rfl rfl (by decide +kernel)) (i_seq (d_var 0)) (fun _ _ _ _=>⟨(g_name (i:=0) (show (["line"]:List Str).Nodup by decide +kernel) rfl (by first | exact Or.inl rfl | exact Or.inr rfl)),ifs_nil,(d_ix (d_var 0) (d_call c_lead_place hr rfl (da_cons (d_var 0) da_nil)))⟩))))⟩
abbrev s_has_lead_alone:Stmt:=top 13
noncomputable def g_has_lead_alone:DS→Option DF:=(retF (callF (consD (lstF (compF (itF (slF (vF 0) (oS (bind2 (callF (consD (vF 0) nilF) F_lead_place) (cF (.int 1)) addD)) oN)) (bind1 0) yesT (bind2 (vF 0) (cF (.int 0)) eqD) [none])) nilF) allD))
noncomputable def F_has_lead_alone:List D→Option D:=runD 1 ["line"] g_has_lead_alone
theorem sc_has_lead_alone:FnScope ["line"] ["line"] (defScope s_has_lead_alone):=⟨rfl,rfl,rfl,by decide +kernel,rfl,by decide +kernel,by decide +kernel⟩
theorem ok_has_lead_alone (B:Bl P mg) (F:Fun K "has_lead_alone" "has_lead_alone" s_has_lead_alone f fd) (hm:mg "has_lead_alone" = some (.ref f)) (c_lead_place:Ca P w K mg base 1 "lead_place" F_lead_place):Ca P w K mg base 2 "has_lead_alone" F_has_lead_alone :=
  def_ok (g:=g_has_lead_alone) F sc_has_lead_alone hm (F.binds fun _ _ _ _ _ _ us hl=>match us,hl with | [_],_=>rfl) fun cdv A outer s H E hr=>⟨[],(s_one (s_ret (d_all rfl rfl B.b_all (da_cons (d_comp rfl (compSc_mk (N':=["number"]) (inn:=[none]) (defScope s_has_lead_alone) ["line"] rfl rfl (by decide +kernel)) (i_seq (d_slice (d_var 0) (o_some (d_add (d_call c_lead_place hr rfl (da_cons (d_var 0) da_nil)) d_int)) o_none)) (fun _ _ _ _=>⟨(g_name (i:=0) (show (["number"]:List Str).Nodup by decide +kernel) rfl (by first | exact Or.inl rfl | exact Or.inr rfl)),ifs_nil,(d_eq hr (d_var 0) d_int)⟩)) da_nil))))⟩
abbrev s_chained:Stmt:=top 14
noncomputable def g_chained:DS→Option DF:=(seqF (setL 1 (fsF (consD (vF 0) nilF) list1)) (seqF (setF 2 (callF (consD (vF 0) nilF) lenD)) (seqF (fgF 0 (forF (fsF (consD (vF 2) nilF) range1D) (bind1 3) (forF (fsF (consD (bind2 (vF 3) (cF (.int 1)) addD) (consD (vF 2) nilF)) range2D) (bind1 4) (seqF (setF 5 (callF (consD (bind2 (vF 1) (vF 3) ixD) (consD (bind2 (vF 1) (vF 4) ixD) nilF)) F_common_divisor)) (seqF (putS 1 (vF 4) (bind2 (bind2 (bind2 (vF 1) (vF 3) ixD) (vF 5) fdivD) (bind2 (vF 1) (vF 4) ixD) mulD)) (putS 1 (vF 3) (vF 5))))))) (retF (callF (consD (vF 1) nilF) tupleD)))))
noncomputable def F_chained:List D→Option D:=runD 1 ["numbers", "links", "many", "low", "high", "common"] g_chained
theorem sc_chained:FnScope ["numbers", "links", "many", "low", "high", "common"] ["numbers"] (defScope s_chained):=⟨rfl,rfl,rfl,by decide +kernel,rfl,by decide +kernel,by decide +kernel⟩
theorem ok_chained (B:Bl P mg) (F:Fun K "chained" "chained" s_chained f fd) (hm:mg "chained" = some (.ref f)) (c_common_divisor:Ca P w K mg base 1 "common_divisor" F_common_divisor):Ca P w K mg base 2 "chained" F_chained :=
  def_ok (g:=g_chained) F sc_chained hm (F.binds fun _ _ _ _ _ _ us hl=>match us,hl with | [_],_=>rfl) fun cdv A outer s H E hr=>⟨[],(s_cons (s_setF 1 sc_chained.nd rfl (by first | exact Or.inl rfl | exact Or.inr rfl) (f_list rfl B.b_list (da_cons (d_var 0) da_nil))) (s_cons (s_set 2 sc_chained.nd rfl (by first | exact Or.inl rfl | exact Or.inr rfl) (d_len rfl B.b_len (da_cons (d_var 0) da_nil))) (s_cons (s_fg 0 (s_forR PassesOwn.never rfl (r_range1 rfl B.b_range (da_cons (d_var 2) da_nil)) (g_name (i:=3) sc_chained.nd rfl (by first | exact Or.inl rfl | exact Or.inr rfl)) (by decide) (s_one (s_forR PassesOwn.never rfl (r_range2 rfl B.b_range (da_cons (d_add (d_var 3) d_int) (da_cons (d_var 2) da_nil))) (g_name (i:=4) sc_chained.nd rfl (by first | exact Or.inl rfl | exact Or.inr rfl)) (by decide) (s_cons (s_set 5 sc_chained.nd rfl (by first | exact Or.inl rfl | exact Or.inr rfl) (d_call c_common_divisor hr rfl (da_cons (d_ix (d_var 1) (d_var 3)) (da_cons (d_ix (d_var 1) (d_var 4)) da_nil)))) (s_cons (s_put 1 (by decide) rfl (by first | exact Or.inl rfl | exact Or.inr (Or.inl rfl) | exact Or.inr (Or.inr rfl)) (fun _ h=>nomatch h) (d_var 4) (d_mul (d_fdiv hr B.tree (d_ix (d_var 1) (d_var 3)) (d_var 5)) (d_ix (d_var 1) (d_var 4)))) (s_one (s_put 1 (by decide) rfl (by first | exact Or.inl rfl | exact Or.inr (Or.inl rfl) | exact Or.inr (Or.inr rfl)) (fun _ h=>nomatch h) (d_var 3) (d_var 5))))))))) (s_one (s_ret (d_tuple rfl B.b_tuple (da_cons (d_var 1) da_nil)))))))⟩
abbrev s_grades:Stmt:=top 15
noncomputable def g_grades:DS→Option DF:=(seqF (setF 2 (callF (consD (vF 0) (consD (vF 1) nilF)) F_plain)) (seqF (setF 3 (vF 1)) (seqF (whF (notT (truT (callF (consD (lstF (compF (itF (vF 2)) (bind1 0) yesT (callF (consD (vF 0) nilF) F_has_lead_alone) [none])) nilF) allD))) (seqF (setF 4 (callF (consD (vF 2) (consD (vF 3) nilF)) F_upright)) (seqF (setF 3 (callF (consD (vF 2) nilF) lenD)) (setF 2 (callF (consD (vF 4) (consD (vF 3) nilF)) F_plain))))) (retF (callF (consD (callF (consD (vF 2) nilF) F_leads) nilF) F_chained)))))
noncomputable def F_grades:List D→Option D:=runD 2 ["lot", "wide", "lines", "width", "turned"] g_grades
theorem sc_grades:FnScope ["lot", "wide", "lines", "width", "turned"] ["lot", "wide"] (defScope s_grades):=⟨rfl,rfl,rfl,by decide +kernel,rfl,by decide +kernel,by decide +kernel⟩
theorem ok_grades (B:Bl P mg) (F:Fun K "grades" "grades" s_grades f fd) (hm:mg "grades" = some (.ref f)) (c_upright:Ca P w K mg base 4 "upright" F_upright) (c_plain:Ca P w K mg base 4 "plain" F_plain) (c_leads:Ca P w K mg base 4 "leads" F_leads) (c_has_lead_alone:Ca P w K mg base 4 "has_lead_alone" F_has_lead_alone) (c_chained:Ca P w K mg base 4 "chained" F_chained):Ca P w K mg base 5 "grades" F_grades :=
  def_ok (g:=g_grades) F sc_grades hm (F.binds fun _ _ _ _ _ _ us hl=>match us,hl with | [_,_],_=>rfl) fun cdv A outer s H E hr=>⟨[],(s_cons (s_set 2 sc_grades.nd rfl (by first | exact Or.inl rfl | exact Or.inr rfl) (d_call c_plain hr rfl (da_cons (d_var 0) (da_cons (d_var 1) da_nil)))) (s_cons (s_set 3 sc_grades.nd rfl (by first | exact Or.inl rfl | exact Or.inr rfl) (d_var 1)) (s_cons (s_whileF PassesOwn.never (t_not (t_truth (d_all rfl rfl B.b_all (da_cons (d_comp rfl (compSc_mk (N':=["line"]) (inn:=[none]) (defScope s_grades) ["lot", "wide", "lines", "width", "turned"] rfl rfl (by decide +kernel)) (i_seq (d_var 2)) (fun _ _ _ _=>⟨(g_name (i:=0) (show (["line"]:List Str).Nodup by decide +kernel) rfl (by first | exact Or.inl rfl | exact Or.inr rfl)),ifs_nil,(d_call c_has_lead_alone hr rfl (da_cons (d_var 0) da_nil))⟩)) da_nil)))) (s_cons (s_set 4 sc_grades.nd rfl (by first | exact Or.inl rfl | exact Or.inr rfl) (d_call c_upright hr rfl (da_cons (d_var 2) (da_cons (d_var 3) da_nil)))) (s_cons (s_set 3 sc_grades.nd rfl (by first | exact Or.inl rfl | exact Or.inr rfl) (d_len rfl B.b_len (da_cons (d_var 2) da_nil))) (s_one (s_set 2 sc_grades.nd rfl (by first | exact Or.inl rfl | exact Or.inr rfl) (d_call c_plain hr rfl (da_cons (d_var 4) (da_cons (d_var 3) da_nil)))))))) (s_one (s_ret (d_call c_chained hr rfl (da_cons (d_call c_leads hr rfl (da_cons (d_var 2) da_nil)) da_nil)))))))⟩
abbrev s__law_cell:Stmt:=top 17
noncomputable def g__law_cell:DS→Option DF:=(seqF (ifF (bT (bind2 (vF 1) (callF (consD (vF 0) nilF) lenD) ltD)) (retF (bind2 (vF 0) (vF 1) ixD)) nxF) (retF (cF (.int 0))))
noncomputable def F__law_cell:List D→Option D:=runD 2 ["_law_script", "_law_k"] g__law_cell
theorem sc__law_cell:FnScope ["_law_script", "_law_k"] ["_law_script", "_law_k"] (defScope s__law_cell):=⟨rfl,rfl,rfl,by decide +kernel,rfl,by decide +kernel,by decide +kernel⟩
theorem ok__law_cell (B:Bl P mg) (F:Fun K "_law_cell" "_law_cell" s__law_cell f fd) (hm:mg "_law_cell" = some (.ref f))  : Ca P w K mg base 1 "_law_cell" F__law_cell :=
  def_ok (g:=g__law_cell) F sc__law_cell hm (F.binds fun _ _ _ _ _ _ us hl=>match us,hl with | [_,_],_=>rfl) fun cdv A outer s H E hr=>⟨[],(s_cons (s_if (t_lt (d_var 1) (d_len rfl B.b_len (da_cons (d_var 0) da_nil))) (s_one (s_ret (d_ix (d_var 0) (d_var 1)))) s_nil) (s_one (s_ret d_int)))⟩
abbrev s__law_mix:Stmt:=top 18
noncomputable def g__law_mix:DS→Option DF:=(retF (bind2 (bind2 (bind2 (vF 0) (cF (.int 48271)) mulD) (vF 1) modD) (vF 2) modD))
noncomputable def F__law_mix:List D→Option D:=runD 3 ["_law_cell_here", "_law_prime", "_law_many"] g__law_mix
theorem sc__law_mix:FnScope ["_law_cell_here", "_law_prime", "_law_many"] ["_law_cell_here", "_law_prime", "_law_many"] (defScope s__law_mix):=⟨rfl,rfl,rfl,by decide +kernel,rfl,by decide +kernel,by decide +kernel⟩
theorem ok__law_mix (B:Bl P mg) (F:Fun K "_law_mix" "_law_mix" s__law_mix f fd) (hm:mg "_law_mix" = some (.ref f))  : Ca P w K mg base 1 "_law_mix" F__law_mix :=
  def_ok (g:=g__law_mix) F sc__law_mix hm (F.binds fun _ _ _ _ _ _ us hl=>match us,hl with | [_,_,_],_=>rfl) fun cdv A outer s H E hr=>⟨[],(s_one (s_ret (d_mod (d_mod (d_mul (d_var 0) d_int) (d_var 1)) (d_var 2))))⟩
abbrev s__law_row:Stmt:=top 19
noncomputable def g__law_row:DS→Option DF:=(retF (callF (consD (lstF (compF (fsF (consD (vF 1) nilF) range1D) (bind1 0) yesT (bind2 (callF (consD (bind2 (vF 1) (bind2 (cF (.int 11)) (vF 0) mulD) addD) (consD (cF (.int 9973)) (consD (cF (.int 13)) nilF))) F__law_mix) (cF (.int 6)) subD) [none,some 0])) nilF) tupleD))
noncomputable def F__law_row:List D→Option D:=runD 2 ["_law_cell_here", "_law_wide_here"] g__law_row
theorem sc__law_row:FnScope ["_law_cell_here", "_law_wide_here"] ["_law_cell_here", "_law_wide_here"] (defScope s__law_row):=⟨rfl,rfl,rfl,by decide +kernel,rfl,by decide +kernel,by decide +kernel⟩
theorem ok__law_row (B:Bl P mg) (F:Fun K "_law_row" "_law_row" s__law_row f fd) (hm:mg "_law_row" = some (.ref f)) (c__law_mix:Ca P w K mg base 1 "_law_mix" F__law_mix):Ca P w K mg base 2 "_law_row" F__law_row :=
  def_ok (g:=g__law_row) F sc__law_row hm (F.binds fun _ _ _ _ _ _ us hl=>match us,hl with | [_,_],_=>rfl) fun cdv A outer s H E hr=>⟨[],(s_one (s_ret (d_tuple rfl B.b_tuple (da_cons (d_comp rfl (compSc_mk (N':=["_law_at", "_law_cell_here"]) (inn:=[none,some 0]) (defScope s__law_row) ["_law_cell_here", "_law_wide_here"] rfl rfl (by decide +kernel)) (i_of_r (r_range1 rfl B.b_range (da_cons (d_var 1) da_nil))) (fun _ _ _ _=>⟨(g_name (i:=0) (show (["_law_at", "_law_cell_here"]:List Str).Nodup by decide +kernel) rfl (by first | exact Or.inl rfl | exact Or.inr rfl)),ifs_nil,(d_sub (d_call c__law_mix hr rfl (da_cons (d_add (d_var 1) (d_mul d_int (d_var 0))) (da_cons d_int (da_cons d_int da_nil)))) d_int)⟩)) da_nil))))⟩
abbrev s__law_sum:Stmt:=top 20
noncomputable def g__law_sum:DS→Option DF:=(seqF (setL 3 (compF (fsF (consD (vF 2) nilF) range1D) (bind1 0) yesT (cF (.int 0)) [none])) (seqF (forF (fsF (consD (vF 0) (consD (vF 1) nilF)) zip2) (bindP 4 5) (setL 3 (compF (fsF (consD (vF 3) (consD (vF 5) nilF)) zip2) (bindP 0 1) yesT (bind2 (vF 0) (bind2 (vF 2) (vF 1) mulD) addD) [none,none,some 4]))) (retF (callF (consD (vF 3) nilF) tupleD))))
noncomputable def F__law_sum:List D→Option D:=runD 3 ["_law_counts", "_law_lot_here", "_law_wide_here", "_law_found", "_law_count", "_law_row_here"] g__law_sum
theorem sc__law_sum:FnScope ["_law_counts", "_law_lot_here", "_law_wide_here", "_law_found", "_law_count", "_law_row_here"] ["_law_counts", "_law_lot_here", "_law_wide_here"] (defScope s__law_sum):=⟨rfl,rfl,rfl,by decide +kernel,rfl,by decide +kernel,by decide +kernel⟩
theorem ok__law_sum (B:Bl P mg) (F:Fun K "_law_sum" "_law_sum" s__law_sum f fd) (hm:mg "_law_sum" = some (.ref f))  : Ca P w K mg base 1 "_law_sum" F__law_sum :=
  def_ok (g:=g__law_sum) F sc__law_sum hm (F.binds fun _ _ _ _ _ _ us hl=>match us,hl with | [_,_,_],_=>rfl) fun cdv A outer s H E hr=>⟨[],(s_cons (s_drop [] (by decide) (s_comp 3 sc__law_sum.nd rfl (by first | exact Or.inl rfl | exact Or.inr rfl) rfl rfl (compSc_mk (N':=["_law_at"]) (inn:=[none]) (defScope s__law_sum) ["_law_counts", "_law_lot_here", "_law_wide_here", "_law_found", "_law_count", "_law_row_here"] rfl rfl (by decide +kernel)) (i_of_r (r_range1 rfl B.b_range (da_cons (d_var 2) da_nil))) (fun _ _ _ _=>⟨(g_name (i:=0) (show (["_law_at"]:List Str).Nodup by decide +kernel) rfl (by first | exact Or.inl rfl | exact Or.inr rfl)),ifs_nil,d_int⟩))) (s_cons (s_for PassesOwn.never rfl (i_zip rfl B.b_zip (da_cons (d_var 0) (da_cons (d_var 1) da_nil))) (g_pair (i:=4) (j:=5) rfl sc__law_sum.nd rfl rfl (by first | exact Or.inl rfl | exact Or.inr rfl) (by first | exact Or.inl rfl | exact Or.inr rfl)) (by decide) (fun _=>(s_one (s_drop [] (by decide) (s_comp 3 sc__law_sum.nd rfl (by first | exact Or.inl rfl | exact Or.inr rfl) rfl rfl (compSc_mk (N':=["_law_a", "_law_b", "_law_count"]) (inn:=[none,none,some 4]) (defScope s__law_sum) ["_law_counts", "_law_lot_here", "_law_wide_here", "_law_found", "_law_count", "_law_row_here"] rfl rfl (by decide +kernel)) (i_zip rfl B.b_zip (da_cons (d_var 3) (da_cons (d_var 5) da_nil))) (fun _ _ _ _=>⟨(g_pair (i:=0) (j:=1) rfl (show (["_law_a", "_law_b", "_law_count"]:List Str).Nodup by decide +kernel) rfl rfl (by first | exact Or.inl rfl | exact Or.inr rfl) (by first | exact Or.inl rfl | exact Or.inr rfl)),ifs_nil,(d_add (d_var 0) (d_mul (d_var 2) (d_var 1)))⟩)))))) (s_one (s_ret (d_tuple rfl B.b_tuple (da_cons (d_var 3) da_nil))))))⟩
abbrev s__law_wide:Stmt:=top 21
noncomputable def g__law_wide:DS→Option DF:=(retF (bind2 (cF (.int 1)) (callF (consD (callF (consD (vF 0) (consD (cF (.int 0)) nilF)) F__law_cell) (consD (cF (.int 9967)) (consD (vF 1) nilF))) F__law_mix) addD))
noncomputable def F__law_wide:List D→Option D:=runD 2 ["_law_script", "_law_most"] g__law_wide
theorem sc__law_wide:FnScope ["_law_script", "_law_most"] ["_law_script", "_law_most"] (defScope s__law_wide):=⟨rfl,rfl,rfl,by decide +kernel,rfl,by decide +kernel,by decide +kernel⟩
theorem ok__law_wide (B:Bl P mg) (F:Fun K "_law_wide" "_law_wide" s__law_wide f fd) (hm:mg "_law_wide" = some (.ref f)) (c__law_cell:Ca P w K mg base 1 "_law_cell" F__law_cell) (c__law_mix:Ca P w K mg base 1 "_law_mix" F__law_mix):Ca P w K mg base 2 "_law_wide" F__law_wide :=
  def_ok (g:=g__law_wide) F sc__law_wide hm (F.binds fun _ _ _ _ _ _ us hl=>match us,hl with | [_,_],_=>rfl) fun cdv A outer s H E hr=>⟨[],(s_one (s_ret (d_add d_int (d_call c__law_mix hr rfl (da_cons (d_call c__law_cell hr rfl (da_cons (d_var 0) (da_cons d_int da_nil))) (da_cons d_int (da_cons (d_var 1) da_nil)))))))⟩
abbrev s__law_lot:Stmt:=top 22
noncomputable def g__law_lot:DS→Option DF:=(seqF (setL 4 (dispF nilF)) (seqF (forF (fsF (consD (callF (consD (callF (consD (vF 0) (consD (vF 1) nilF)) F__law_cell) (consD (cF (.int 9949)) (consD (bind2 (vF 3) (cF (.int 1)) addD) nilF))) F__law_mix) nilF) range1D) (bind1 5) (seqF (setF 6 (bind2 (callF (consD (vF 0) (consD (bind2 (vF 1) (vF 5) addD) nilF)) F__law_cell) (bind2 (cF (.int 101)) (vF 5) mulD) addD)) (ifF (andT (bT (bind2 (vF 5) (cF (.int 0)) gtD)) (bT (bind2 (callF (consD (vF 6) (consD (cF (.int 9941)) (consD (cF (.int 4)) nilF))) F__law_mix) (cF (.int 0)) eqD))) (appF 4 (callF (consD (lstF (compF (fsF (consD (vF 5) nilF) range1D) (bind1 0) yesT (bind2 (callF (consD (bind2 (vF 1) (bind2 (cF (.int 3)) (vF 0) mulD) addD) (consD (cF (.int 9931)) (consD (cF (.int 5)) nilF))) F__law_mix) (cF (.int 2)) subD) [none,some 6])) (consD (vF 4) (consD (vF 2) nilF))) F__law_sum)) (appF 4 (callF (consD (vF 6) (consD (vF 2) nilF)) F__law_row))))) (retF (callF (consD (vF 4) nilF) tupleD))))
noncomputable def F__law_lot:List D→Option D:=runD 4 ["_law_script", "_law_k", "_law_wide_here", "_law_most", "_law_found", "_law_n", "_law_cell_here"] g__law_lot
theorem sc__law_lot:FnScope ["_law_script", "_law_k", "_law_wide_here", "_law_most", "_law_found", "_law_n", "_law_cell_here"] ["_law_script", "_law_k", "_law_wide_here", "_law_most"] (defScope s__law_lot):=⟨rfl,rfl,rfl,by decide +kernel,rfl,by decide +kernel,by decide +kernel⟩
theorem ok__law_lot (B:Bl P mg) (F:Fun K "_law_lot" "_law_lot" s__law_lot f fd) (hm:mg "_law_lot" = some (.ref f)) (c__law_cell:Ca P w K mg base 2 "_law_cell" F__law_cell) (c__law_mix:Ca P w K mg base 2 "_law_mix" F__law_mix) (c__law_row:Ca P w K mg base 2 "_law_row" F__law_row) (c__law_sum:Ca P w K mg base 2 "_law_sum" F__law_sum):Ca P w K mg base 3 "_law_lot" F__law_lot :=
  def_ok (g:=g__law_lot) F sc__law_lot hm (F.binds fun _ _ _ _ _ _ us hl=>match us,hl with | [_,_,_,_],_=>rfl) fun cdv A outer s H E hr=>⟨[],(s_cons (s_setF 4 sc__law_lot.nd rfl (by first | exact Or.inl rfl | exact Or.inr rfl) (f_lst da_nil)) (s_cons (s_forR PassesOwn.never rfl (r_range1 rfl B.b_range (da_cons (d_call c__law_mix hr rfl (da_cons (d_call c__law_cell hr rfl (da_cons (d_var 0) (da_cons (d_var 1) da_nil))) (da_cons d_int (da_cons (d_add (d_var 3) d_int) da_nil)))) da_nil)) (g_name (i:=5) sc__law_lot.nd rfl (by first | exact Or.inl rfl | exact Or.inr rfl)) (by decide) (s_cons (s_set 6 sc__law_lot.nd rfl (by first | exact Or.inl rfl | exact Or.inr rfl) (d_add (d_call c__law_cell hr rfl (da_cons (d_var 0) (da_cons (d_add (d_var 1) (d_var 5)) da_nil))) (d_mul d_int (d_var 5)))) (s_one (s_if (PW.pt (w_and (t_gt (d_var 5) d_int) (PT.pw_and1 (t_eq hr (d_call c__law_mix hr rfl (da_cons (d_var 6) (da_cons d_int (da_cons d_int da_nil)))) d_int)))) (s_one (s_append 4 (by decide) rfl (by first | exact Or.inl rfl | exact Or.inr (Or.inl rfl) | exact Or.inr (Or.inr rfl)) (fun _ h=>nomatch h) (d_call c__law_sum hr rfl (da_cons (d_comp rfl (compSc_mk (N':=["_law_j", "_law_cell_here"]) (inn:=[none,some 6]) (defScope s__law_lot) ["_law_script", "_law_k", "_law_wide_here", "_law_most", "_law_found", "_law_n", "_law_cell_here"] rfl rfl (by decide +kernel)) (i_of_r (r_range1 rfl B.b_range (da_cons (d_var 5) da_nil))) (fun _ _ _ _=>⟨(g_name (i:=0) (show (["_law_j", "_law_cell_here"]:List Str).Nodup by decide +kernel) rfl (by first | exact Or.inl rfl | exact Or.inr rfl)),ifs_nil,(d_sub (d_call c__law_mix hr rfl (da_cons (d_add (d_var 1) (d_mul d_int (d_var 0))) (da_cons d_int (da_cons d_int da_nil)))) d_int)⟩)) (da_cons (d_var 4) (da_cons (d_var 2) da_nil)))))) (s_one (s_append 4 (by decide) rfl (by first | exact Or.inl rfl | exact Or.inr (Or.inl rfl) | exact Or.inr (Or.inr rfl)) (fun _ h=>nomatch h) (d_call c__law_row hr rfl (da_cons (d_var 6) (da_cons (d_var 2) da_nil))))))))) (s_one (s_ret (d_tuple rfl B.b_tuple (da_cons (d_var 4) da_nil))))))⟩
abbrev s__law_whole:Stmt:=top 23
noncomputable def g__law_whole:DS→Option DF:=(retF (andD (callF (consD (vF 0) (consD (cF (.ty "int")) nilF)) isiD) (notD (callF (consD (vF 0) (consD (cF (.ty "bool")) nilF)) isiD))))
noncomputable def F__law_whole:List D→Option D:=runD 1 ["_law_found"] g__law_whole
theorem sc__law_whole:FnScope ["_law_found"] ["_law_found"] (defScope s__law_whole):=⟨rfl,rfl,rfl,by decide +kernel,rfl,by decide +kernel,by decide +kernel⟩
theorem ok__law_whole (B:Bl P mg) (F:Fun K "_law_whole" "_law_whole" s__law_whole f fd) (hm:mg "_law_whole" = some (.ref f))  : Ca P w K mg base 1 "_law_whole" F__law_whole :=
  def_ok (g:=g__law_whole) F sc__law_whole hm (F.binds fun _ _ _ _ _ _ us hl=>match us,hl with | [_],_=>rfl) fun cdv A outer s H E hr=>⟨[],(s_one (s_ret (d_and (d_isi rfl B.b_isinstance (da_cons (d_var 0) (da_cons (d_ty rfl B.b_int (by decide +kernel)) da_nil))) (d_one (d_not (d_isi rfl B.b_isinstance (da_cons (d_var 0) (da_cons (d_ty rfl B.b_bool (by decide +kernel)) da_nil))))))))⟩
abbrev s__law_mixed:Stmt:=top 24
noncomputable def g__law_mixed (F__law_mixed:List D→Option D):DS→Option DF:=(seqF (ifF (notT (truT (vF 0))) (retF (cF (.int 1))) nxF) (seqF (setF 1 (cF (.int 0))) (seqF (forF (fsF (consD (bind2 (vF 0) (cF (.int 0)) ixD) nilF) enumD) (bindP 2 3) (seqF (setL 4 (compF (itF (slF (vF 0) (oS (cF (.int 1))) oN)) (bind1 0) yesT (bind2 (slF (vF 0) oN (oS (vF 1))) (slF (vF 0) (oS (bind2 (vF 1) (cF (.int 1)) addD)) oN) addD) [none,some 2])) (setF 1 (bind2 (vF 1) (bind2 (bind2 (bind2 (cF (.int 1)) (bind2 (cF (.int 2)) (bind2 (vF 2) (cF (.int 2)) modD) mulD) subD) (vF 3) mulD) (callF (consD (vF 4) nilF) F__law_mixed) mulD) addD)))) (retF (vF 1)))))
noncomputable def Fn__law_mixed:Nat→List D→Option D
  | 0=>runD 1 ["_law_rows", "_law_found", "_law_at", "_law_number", "_law_less"] fun _=>none
  | k+1=>runD 1 ["_law_rows", "_law_found", "_law_at", "_law_number", "_law_less"] (g__law_mixed (Fn__law_mixed k))
noncomputable def F__law_mixed:List D→Option D:=Fn__law_mixed 5
theorem sc__law_mixed:FnScope ["_law_rows", "_law_found", "_law_at", "_law_number", "_law_less"] ["_law_rows"] (defScope s__law_mixed):=⟨rfl,rfl,rfl,by decide +kernel,rfl,by decide +kernel,by decide +kernel⟩
theorem ok0__law_mixed (B:Bl P mg) (F:Fun K "_law_mixed" "_law_mixed" s__law_mixed f fd) (hm:mg "_law_mixed" = some (.ref f)):Ca P w K mg base 1 "_law_mixed" (Fn__law_mixed 0) :=
  def_ok (k:=0) (g:=fun _=>none) F sc__law_mixed hm (F.binds fun _ _ _ _ _ _ us hl=>match us,hl with | [_],_=>rfl) fun cdv A outer s H E hr=>⟨[],ss_none⟩
theorem okS__law_mixed (B:Bl P mg) (F:Fun K "_law_mixed" "_law_mixed" s__law_mixed f fd) (hm:mg "_law_mixed" = some (.ref f)) {k:Nat} {F__law_mixed:List D→Option D} (c__law_mixed:Ca P w K mg base k "_law_mixed" F__law_mixed):Ca P w K mg base (k+1) "_law_mixed" (runD 1 ["_law_rows", "_law_found", "_law_at", "_law_number", "_law_less"] (g__law_mixed F__law_mixed)) :=
  def_ok (g:=g__law_mixed F__law_mixed) F sc__law_mixed hm (F.binds fun _ _ _ _ _ _ us hl=>match us,hl with | [_],_=>rfl) fun cdv A outer s H E hr=>⟨[],(s_cons (s_if (t_not (t_truth (d_var 0))) (s_one (s_ret d_int)) s_nil) (s_cons (s_set 1 sc__law_mixed.nd rfl (by first | exact Or.inl rfl | exact Or.inr rfl) d_int) (s_cons (s_for PassesOwn.never rfl (i_enum rfl B.b_enumerate (da_cons (d_ix (d_var 0) d_int) da_nil)) (g_pair (i:=2) (j:=3) rfl sc__law_mixed.nd rfl rfl (by first | exact Or.inl rfl | exact Or.inr rfl) (by first | exact Or.inl rfl | exact Or.inr rfl)) (by decide) (fun _=>(s_cons (s_drop [] (by decide) (s_comp 4 sc__law_mixed.nd rfl (by first | exact Or.inl rfl | exact Or.inr rfl) rfl rfl (compSc_mk (N':=["_law_row_here", "_law_at"]) (inn:=[none,some 2]) (defScope s__law_mixed) ["_law_rows", "_law_found", "_law_at", "_law_number", "_law_less"] rfl rfl (by decide +kernel)) (i_seq (d_slice (d_var 0) (o_some d_int) o_none)) (fun _ _ _ _=>⟨(g_name (i:=0) (show (["_law_row_here", "_law_at"]:List Str).Nodup by decide +kernel) rfl (by first | exact Or.inl rfl | exact Or.inr rfl)),ifs_nil,(d_add (d_slice (d_var 0) o_none (o_some (d_var 1))) (d_slice (d_var 0) (o_some (d_add (d_var 1) d_int)) o_none))⟩))) (s_one (s_set 1 sc__law_mixed.nd rfl (by first | exact Or.inl rfl | exact Or.inr rfl) (d_add (d_var 1) (d_mul (d_mul (d_sub d_int (d_mul d_int (d_mod (d_var 2) d_int))) (d_var 3)) (d_call c__law_mixed hr rfl (da_cons (d_var 4) da_nil))))))))) (s_one (s_ret (d_var 1))))))⟩
theorem ok__law_mixed (B:Bl P mg) (F:Fun K "_law_mixed" "_law_mixed" s__law_mixed f fd) (hm:mg "_law_mixed" = some (.ref f)):Ca P w K mg base 6 "_law_mixed" F__law_mixed:=okS__law_mixed B F hm (okS__law_mixed B F hm (okS__law_mixed B F hm (okS__law_mixed B F hm (okS__law_mixed B F hm (ok0__law_mixed B F hm)))))
abbrev s__law_some:Stmt:=top 25
noncomputable def g__law_some:DS→Option DF:=(seqF (setL 2 (dispF nilF)) (seqF (forF (fsF (consD (cF (.int 8)) nilF) range1D) (bind1 3) (seqF (setL 4 (compF (fsF (consD (cF (.int 3)) nilF) range1D) (bind1 0) (bT (bind2 (bind2 (bind2 (vF 1) (vF 0) shrD) (cF (.int 1)) bandD) (cF (.int 1)) eqD)) (vF 0) [none,some 3])) (ifF (andT (bT (bind2 (callF (consD (vF 4) nilF) lenD) (vF 1) eqD)) (truT (callF (consD (lstF (compF (itF (vF 4)) (bind1 0) yesT (bind2 (vF 0) (vF 1) ltD) [none,some 0])) nilF) allD))) (appFA 2 (vF 4)) nxF))) (retF (vF 2))))
noncomputable def F__law_some:List D→Option D:=runD 2 ["_law_many", "_law_size", "_law_found", "_law_number", "_law_some_here"] g__law_some
theorem sc__law_some:FnScope ["_law_many", "_law_size", "_law_found", "_law_number", "_law_some_here"] ["_law_many", "_law_size"] (defScope s__law_some):=⟨rfl,rfl,rfl,by decide +kernel,rfl,by decide +kernel,by decide +kernel⟩
theorem ok__law_some (B:Bl P mg) (F:Fun K "_law_some" "_law_some" s__law_some f fd) (hm:mg "_law_some" = some (.ref f))  : Ca P w K mg base 1 "_law_some" F__law_some :=
  def_ok (g:=g__law_some) F sc__law_some hm (F.binds fun _ _ _ _ _ _ us hl=>match us,hl with | [_,_],_=>rfl) fun cdv A outer s H E hr=>⟨[],(s_cons (s_setF 2 sc__law_some.nd rfl (by first | exact Or.inl rfl | exact Or.inr rfl) (f_lst da_nil)) (s_cons (s_forR PassesOwn.never rfl (r_range1 rfl B.b_range (da_cons d_int da_nil)) (g_name (i:=3) sc__law_some.nd rfl (by first | exact Or.inl rfl | exact Or.inr rfl)) (by decide) (s_cons (s_drop [2] (by decide) (s_comp 4 sc__law_some.nd rfl (by first | exact Or.inl rfl | exact Or.inr rfl) rfl rfl (compSc_mk (N':=["_law_k", "_law_number"]) (inn:=[none,some 3]) (defScope s__law_some) ["_law_many", "_law_size", "_law_found", "_law_number", "_law_some_here"] rfl rfl (by decide +kernel)) (i_of_r (r_range1 rfl B.b_range (da_cons d_int da_nil))) (fun _ _ _ _=>⟨(g_name (i:=0) (show (["_law_k", "_law_number"]:List Str).Nodup by decide +kernel) rfl (by first | exact Or.inl rfl | exact Or.inr rfl)),(ifs_one (t_eq hr (d_band (d_shr (d_var 1) (d_var 0)) d_int) d_int)),(d_var 0)⟩))) (s_one (s_if (PW.pt (w_and (t_eq hr (d_len rfl B.b_len (da_cons (d_var 4) da_nil)) (d_var 1)) (PT.pw_and1 (t_truth (d_all rfl rfl B.b_all (da_cons (d_comp rfl (compSc_mk (N':=["_law_k", "_law_many"]) (inn:=[none,some 0]) (defScope s__law_some) ["_law_many", "_law_size", "_law_found", "_law_number", "_law_some_here"] rfl rfl (by decide +kernel)) (i_seq (d_var 4)) (fun _ _ _ _=>⟨(g_name (i:=0) (show (["_law_k", "_law_many"]:List Str).Nodup by decide +kernel) rfl (by first | exact Or.inl rfl | exact Or.inr rfl)),ifs_nil,(d_lt (d_var 0) (d_var 1))⟩)) da_nil)))))) (s_one (s_appendA 2 (by decide) rfl (by first | exact Or.inl rfl | exact Or.inr (Or.inl rfl) | exact Or.inr (Or.inr rfl)) (fun _ h=>nomatch h) (d_var 4))) s_nil)))) (s_one (s_ret (d_var 2)))))⟩
abbrev s__law_common:Stmt:=top 26
noncomputable def g__law_common:DS→Option DF:=(seqF (setF 3 (cF (.int 0))) (seqF (forF (itF (callF (consD (callF (consD (vF 0) nilF) lenD) (consD (vF 2) nilF)) F__law_some)) (bind1 4) (forF (itF (callF (consD (vF 1) (consD (vF 2) nilF)) F__law_some)) (bind1 5) (seqF (setF 6 (callF (consD (callF (consD (lstF (compF (itF (vF 4)) (bind1 0) yesT (lstF (compF (itF (vF 1)) (bind1 0) yesT (bind2 (bind2 (vF 1) (vF 2) ixD) (vF 0) ixD) [none,some 2,some 0])) [none,some 5,some 0])) nilF) F__law_mixed) nilF) absD)) (whF (bT (bind2 (vF 6) (cF (.int 0)) gtD)) (parF 3 6 (vF 6) (bind2 (vF 3) (vF 6) modD)))))) (retF (vF 3))))
noncomputable def F__law_common:List D→Option D:=runD 3 ["_law_lot_here", "_law_wide_here", "_law_size", "_law_by", "_law_rows", "_law_places", "_law_one"] g__law_common
theorem sc__law_common:FnScope ["_law_lot_here", "_law_wide_here", "_law_size", "_law_by", "_law_rows", "_law_places", "_law_one"] ["_law_lot_here", "_law_wide_here", "_law_size"] (defScope s__law_common):=⟨rfl,rfl,rfl,by decide +kernel,rfl,by decide +kernel,by decide +kernel⟩
theorem ok__law_common (B:Bl P mg) (F:Fun K "_law_common" "_law_common" s__law_common f fd) (hm:mg "_law_common" = some (.ref f)) (c__law_mixed:Ca P w K mg base 6 "_law_mixed" F__law_mixed) (c__law_some:Ca P w K mg base 6 "_law_some" F__law_some):Ca P w K mg base 7 "_law_common" F__law_common :=
  def_ok (g:=g__law_common) F sc__law_common hm (F.binds fun _ _ _ _ _ _ us hl=>match us,hl with | [_,_,_],_=>rfl) fun cdv A outer s H E hr=>⟨[],(s_cons (s_set 3 sc__law_common.nd rfl (by first | exact Or.inl rfl | exact Or.inr rfl) d_int) (s_cons (s_for PassesOwn.never rfl (i_seq (d_call c__law_some hr rfl (da_cons (d_len rfl B.b_len (da_cons (d_var 0) da_nil)) (da_cons (d_var 2) da_nil)))) (g_name (i:=4) sc__law_common.nd rfl (by first | exact Or.inl rfl | exact Or.inr rfl)) (by decide) (fun _=>(s_one (s_for PassesOwn.never rfl (i_seq (d_call c__law_some hr rfl (da_cons (d_var 1) (da_cons (d_var 2) da_nil)))) (g_name (i:=5) sc__law_common.nd rfl (by first | exact Or.inl rfl | exact Or.inr rfl)) (by decide) (fun _=>(s_cons (s_set 6 sc__law_common.nd rfl (by first | exact Or.inl rfl | exact Or.inr rfl) (d_abs rfl B.b_abs (da_cons (d_call c__law_mixed hr rfl (da_cons (d_comp1 rfl (compSc1_mk (N':=["_law_k", "_law_places", "_law_lot_here"]) (inn:=[none,some 5,some 0]) "_law_k" (defScope s__law_common) ["_law_lot_here", "_law_wide_here", "_law_size", "_law_by", "_law_rows", "_law_places", "_law_one"] rfl rfl (by intro _ _;rfl) (by intro _;rfl) (by decide +kernel)) (i_seq (d_var 4)) (fun _ _ _ _=>⟨(g_name (i:=0) (show (["_law_k", "_law_places", "_law_lot_here"]:List Str).Nodup by decide +kernel) rfl (by first | exact Or.inl rfl | exact Or.inr rfl)),ifs_nil,(d_comp rfl (compSc_mk (N':=["_law_at", "_law_lot_here", "_law_k"]) (inn:=[none,some 2,some 0]) _ ["_law_k", "_law_places", "_law_lot_here"] rfl rfl (by rfl)) (i_seq (d_var 1)) (fun _ _ _ _=>⟨(g_name (i:=0) (show (["_law_at", "_law_lot_here", "_law_k"]:List Str).Nodup by decide +kernel) rfl (by first | exact Or.inl rfl | exact Or.inr rfl)),ifs_nil,(d_ix (d_ix (d_var 1) (d_var 2)) (d_var 0))⟩))⟩)) da_nil)) da_nil))) (s_one (s_whileF PassesOwn.never (t_gt (d_var 6) d_int) (s_one (s_par 3 6 rfl sc__law_common.nd rfl rfl (by decide) rfl rfl (da_cons (d_var 6) (da_cons (d_mod (d_var 3) (d_var 6)) da_nil)))))))))))) (s_one (s_ret (d_var 3)))))⟩
abbrev s_law:Stmt:=top 27
noncomputable def g_law:DS→Option DF:=(seqF (setF 1 (callF (consD (vF 0) (consD (cF (.int 3)) nilF)) F__law_wide)) (seqF (setF 2 (callF (consD (vF 0) (consD (cF (.int 1)) (consD (vF 1) (consD (cF (.int 3)) nilF)))) F__law_lot)) (seqF (setF 3 (callF (consD (vF 2) (consD (vF 1) nilF)) F_grades)) (seqF (ifF (orT (notT (truT (callF (consD (vF 3) (consD (cF (.ty "tuple")) nilF)) isiD))) (bT (bind2 (callF (consD (vF 3) nilF) lenD) (callF (consD (callF (consD (vF 2) (consD (vF 1) nilF)) F_plain) nilF) lenD) neD))) (retF (cF (.bl false))) nxF) (seqF (setF 4 (cF (.int 1))) (seqF (forF (fsF (consD (vF 3) nilF) enumD) (bindP 5 6) (seqF (ifF (orT (notT (truT (callF (consD (vF 6) nilF) F__law_whole))) (orT (bT (bind2 (vF 6) (cF (.int 1)) ltD)) (andT (bT (bind2 (vF 5) (cF (.int 0)) gtD)) (bT (bind2 (bind2 (vF 6) (bind2 (vF 3) (bind2 (vF 5) (cF (.int 1)) subD) ixD) modD) (cF (.int 0)) neD))))) (retF (cF (.bl false))) nxF) (seqF (setF 4 (bind2 (vF 4) (vF 6) mulD)) (ifF (bT (bind2 (vF 4) (callF (consD (vF 2) (consD (vF 1) (consD (bind2 (vF 5) (cF (.int 1)) addD) nilF))) F__law_common) neD)) (retF (cF (.bl false))) nxF)))) (retF (orD (bind2 (callF (consD (vF 2) (consD (vF 1) (consD (bind2 (callF (consD (vF 3) nilF) lenD) (cF (.int 1)) addD) nilF))) F__law_common) (cF (.int 0)) eqD) (bind2 (callF (consD (vF 3) nilF) lenD) (callF (consD (vF 1) (consD (callF (consD (vF 2) nilF) lenD) nilF)) minD) eqD)))))))))
noncomputable def F_law:List D→Option D:=runD 1 ["_law_script", "_law_wide_here", "_law_lot_here", "_law_found", "_law_due", "_law_k", "_law_one"] g_law
theorem sc_law:FnScope ["_law_script", "_law_wide_here", "_law_lot_here", "_law_found", "_law_due", "_law_k", "_law_one"] ["_law_script"] (defScope s_law):=⟨rfl,rfl,rfl,by decide +kernel,rfl,by decide +kernel,by decide +kernel⟩
theorem ok_law (B:Bl P mg) (F:Fun K "law" "law" s_law f fd) (c_plain:Ca P w K mg base 7 "plain" F_plain) (c_grades:Ca P w K mg base 7 "grades" F_grades) (c__law_wide:Ca P w K mg base 7 "_law_wide" F__law_wide) (c__law_lot:Ca P w K mg base 7 "_law_lot" F__law_lot) (c__law_whole:Ca P w K mg base 7 "_law_whole" F__law_whole) (c__law_common:Ca P w K mg base 7 "_law_common" F__law_common):FnOk P w K mg base CX0 8 f fd ["_law_script"] (spD K F_law) :=
  def_fn (g:=g_law) F sc_law fun cdv A outer s H E hr=>⟨[],(s_cons (s_set 1 sc_law.nd rfl (by first | exact Or.inl rfl | exact Or.inr rfl) (d_call c__law_wide hr rfl (da_cons (d_var 0) (da_cons d_int da_nil)))) (s_cons (s_set 2 sc_law.nd rfl (by first | exact Or.inl rfl | exact Or.inr rfl) (d_call c__law_lot hr rfl (da_cons (d_var 0) (da_cons d_int (da_cons (d_var 1) (da_cons d_int da_nil)))))) (s_cons (s_set 3 sc_law.nd rfl (by first | exact Or.inl rfl | exact Or.inr rfl) (d_call c_grades hr rfl (da_cons (d_var 2) (da_cons (d_var 1) da_nil)))) (s_cons (s_if (PW.pt (w_or (t_not (t_truth (d_isi rfl B.b_isinstance (da_cons (d_var 3) (da_cons (d_ty rfl B.b_tuple (by decide +kernel)) da_nil))))) (PT.pw_or1 (t_ne hr (d_len rfl B.b_len (da_cons (d_var 3) da_nil)) (d_len rfl B.b_len (da_cons (d_call c_plain hr rfl (da_cons (d_var 2) (da_cons (d_var 1) da_nil))) da_nil)))))) (s_one (s_ret d_bl)) s_nil) (s_cons (s_set 4 sc_law.nd rfl (by first | exact Or.inl rfl | exact Or.inr rfl) d_int) (s_cons (s_for PassesOwn.never rfl (i_enum rfl B.b_enumerate (da_cons (d_var 3) da_nil)) (g_pair (i:=5) (j:=6) rfl sc_law.nd rfl rfl (by first | exact Or.inl rfl | exact Or.inr rfl) (by first | exact Or.inl rfl | exact Or.inr rfl)) (by decide) (fun _=>(s_cons (s_if (PW.pt (w_or (t_not (t_truth (d_call c__law_whole hr rfl (da_cons (d_var 6) da_nil)))) (w_or (t_lt (d_var 6) d_int) (PT.pw_or1 (PW.pt (w_and (t_gt (d_var 5) d_int) (PT.pw_and1 (t_ne hr (d_mod (d_var 6) (d_ix (d_var 3) (d_sub (d_var 5) d_int))) d_int)))))))) (s_one (s_ret d_bl)) s_nil) (s_cons (s_set 4 sc_law.nd rfl (by first | exact Or.inl rfl | exact Or.inr rfl) (d_mul (d_var 4) (d_var 6))) (s_one (s_if (t_ne hr (d_var 4) (d_call c__law_common hr rfl (da_cons (d_var 2) (da_cons (d_var 1) (da_cons (d_add (d_var 5) d_int) da_nil))))) (s_one (s_ret d_bl)) s_nil)))))) (s_one (s_ret (d_or (d_eq hr (d_call c__law_common hr rfl (da_cons (d_var 2) (da_cons (d_var 1) (da_cons (d_add (d_len rfl B.b_len (da_cons (d_var 3) da_nil)) d_int) da_nil)))) d_int) (d_one (d_eq hr (d_len rfl B.b_len (da_cons (d_var 3) da_nil)) (d_min rfl rfl B.b_min (da_cons (d_var 1) (da_cons (d_len rfl B.b_len (da_cons (d_var 2) da_nil)) da_nil))))))))))))))⟩
end
theorem subZ_zip (r s:List Int) (t:Int):(r.zip s).map (fun p=>D.int (p.1-t*p.2))=(La.subZ r t s).map D.int:=by
  unfold La.subZ
  rw [zipWith_zip,List.map_map];rfl
theorem F_less_eq (r s:List Int) (t:Int) (hl:r.length≤1000) (hm:∀ b∈s,okMul t b=true):F_less [rowD r,.int t,rowD s]=some (rowD (La.subZ r t s)):=by
  have h2:compD (bindP 0 1) yesT (bind2 (vF 0) (bind2 (vF 2) (vF 1) mulD) subD) [none,none,some (.int t)] ((r.zip s).map fun p=>D.tup [.int p.1,.int p.2])=some ((r.zip s).map fun p=>D.int (p.1-t*p.2)) :=
    compD_map (fun δ=>∃ a b,δ=[a,b,some (.int t)]) _ _ _ _ ⟨none,none,rfl⟩ (by
      rintro ⟨a,b⟩ hab δ ⟨y,z,rfl⟩
      refine ⟨[some (.int a),some (.int b),some (.int t)],rfl,⟨_,_,rfl⟩,rfl,?_⟩
      simp only [vF,cF,unF,nilF,callF,lstF,dispF,tupF,fsF,compF,oN,oS,bT,yesT,truT,andT,orT,notT,itF,nxF,retF,setF,setL,ifF,forF,seqF,consD,bind2,andD,orD,notD,asB,asI,runD,bind1,bindP,List.length_cons,List.length_nil,List.map_cons,List.map_nil,List.getElem?_cons_zero,List.getElem?_cons_succ,List.set_cons_zero,List.set_cons_succ,Option.join_some,Option.bind_some,Option.map_some,Option.join_none,Option.bind_none,Option.map_none,innD,List.cons_append,List.nil_append,List.replicate,Nat.sub_self,Nat.reduceAdd,Nat.reduceSub,if_true,if_false,mulD,subD,hm b (List.of_mem_zip hab).2])
  simp only [F_less,g_less,vF,cF,unF,nilF,callF,lstF,dispF,tupF,fsF,compF,oN,oS,bT,yesT,truT,andT,orT,notT,itF,nxF,retF,setF,setL,ifF,forF,seqF,consD,bind2,andD,orD,notD,asB,asI,runD,bind1,bindP,List.length_cons,List.length_nil,List.map_cons,List.map_nil,List.getElem?_cons_zero,List.getElem?_cons_succ,List.set_cons_zero,List.set_cons_succ,Option.join_some,Option.bind_some,Option.map_some,Option.join_none,Option.bind_none,Option.map_none,innD,List.cons_append,List.nil_append,List.replicate,Nat.sub_self,Nat.reduceAdd,Nat.reduceSub,if_true,if_false,zip2,itemsD,rowD,zipD_map,h2,tupleD,subZ_zip]
theorem F_lowered_eq {r l:List Int} {p w b:Nat} (hr:r.length=w) (hl:l.length=w) (hp:p<w) (hw:w≤1000) (h0:La.at' l p≠0) (hbr:(La.at' r p).natAbs≤2 ^ b) (hbl:∀ j,(La.at' l j).natAbs≤2 ^ b) (hb:b<59999999) :
    F_lowered [rowD r,rowD l,.int (p:Int)]=some (rowD (La.lowZ r l p)):=by
  have hq:((La.at' r p).fdiv (La.at' l p)).natAbs≤2 ^ (b+1):=by
    have h1:=La.fdiv_abs h0 hbr
    have h2:2 ^ b / (La.at' l p).natAbs≤2 ^ b:=Nat.div_le_self _ _
    have h3:1≤2 ^ b:=Nat.one_le_two_pow
    rw [Nat.pow_succ];omega
  have e:=F_less_eq r l ((La.at' r p).fdiv (La.at' l p)) (by omega) fun c hc=>by
    obtain ⟨j,hj⟩:=at_mem hc
    rw [← hj]
    exact okMul_of (k:=b+1) hq (Nat.le_trans (hbl j) (Nat.pow_le_pow_right (by decide) (Nat.le_succ b))) (by omega)
  have i1:=ixD_row (r:=r) (p:=p) (by omega)
  have i2:=ixD_row (r:=l) (p:=p) (by omega)
  have f1:=fdivD_int (i:=La.at' r p) h0
  simp only [F_lowered,g_lowered,vF,cF,unF,nilF,callF,lstF,dispF,tupF,fsF,compF,oN,oS,bT,yesT,truT,andT,orT,notT,itF,nxF,retF,setF,setL,ifF,forF,seqF,consD,bind2,andD,orD,notD,asB,asI,runD,bind1,bindP,List.length_cons,List.length_nil,List.map_cons,List.map_nil,List.getElem?_cons_zero,List.getElem?_cons_succ,List.set_cons_zero,List.set_cons_succ,Option.join_some,Option.bind_some,Option.map_some,Option.join_none,Option.bind_none,Option.map_none,innD,List.cons_append,List.nil_append,List.replicate,Nat.sub_self,Nat.reduceAdd,Nat.reduceSub,if_true,if_false,i1,i2,f1,e,La.lowZ]
theorem ix0_row {r:List Int} {p:Nat} (h:p<r.length) (δ:DS) (f g:DS→Option D) (h1:f δ=some (rowD r)) (h2:g δ=some (.int (p:Int))):bind2 f g ixD δ=some (.int (La.at' r p)):=(bind2_eq h1 h2).trans (ixD_row h)
theorem eq0 (a:Int):eqD (.int a) (.int 0)=some (.bl (a==0)):=rfl
theorem ne0 (a:Int):neD (.int a) (.int 0)=some (.bl (!(a==0))):=rfl
theorem comp_eq0 {rows:List (List Int)} {w pl:Nat} (hl:∀ r∈rows,r.length=w) (hp:pl<w):compD (bind1 0) (bT (bind2 (bind2 (vF 0) (vF 1) ixD) (cF (.int 0)) eqD)) (vF 0) [none,some (.int (pl:Int))] (rows.map rowD)=some ((rows.filter fun r=>La.at' r pl==0).map rowD) :=
  compD_filter (fun δ=>∃ a,δ=[a,some (.int (pl:Int))]) rowD (fun r=>La.at' r pl==0) rowD rows _ ⟨none,rfl⟩ (by
    rintro r hr δ ⟨a,rfl⟩
    refine ⟨[some (rowD r),some (.int pl)],rfl,⟨_,rfl⟩,?_,fun _=>rfl⟩
    exact bT_eq ((bind2_eq (ix0_row (p:=pl) (by rw [hl r hr];exact hp) _ _ _ rfl rfl) rfl).trans (eq0 _)))
theorem comp_ne0 {rows:List (List Int)} {w pl:Nat} (hl:∀ r∈rows,r.length=w) (hp:pl<w):compD (bind1 0) (bT (bind2 (bind2 (vF 0) (vF 1) ixD) (cF (.int 0)) neD)) (vF 0) [none,some (.int (pl:Int))] (rows.map rowD)=some ((rows.filter fun r=>La.at' r pl != 0).map rowD) :=
  compD_filter (fun δ=>∃ a,δ=[a,some (.int (pl:Int))]) rowD (fun r=>La.at' r pl != 0) rowD rows _ ⟨none,rfl⟩ (by
    rintro r hr δ ⟨a,rfl⟩
    refine ⟨[some (rowD r),some (.int pl)],rfl,⟨_,rfl⟩,?_,fun _=>rfl⟩
    exact bT_eq ((bind2_eq (ix0_row (p:=pl) (by rw [hl r hr];exact hp) _ _ _ rfl rfl) rfl).trans (ne0 _)))
theorem ix_head (x:D) (xs:List D):ixD (.lst (x::xs)) (.int 0)=some x:=by
  show atI (x::xs) ((0:Nat):Int)=some x
  exact atI_nat rfl
theorem slD_tail (xs:List D):slD (.lst xs) (some 1) none=some (.lst (xs.drop 1)):=by
  simp only [slD]
  unfold cutD
  rw [show HT.sIx xs.length 0 (some 1)=min 1 xs.length from HT.sIx_nat xs.length 0 1,HT.sIx_none]
  congr 2
  rcases Nat.le_total 1 xs.length with z | z
  · rw [Nat.min_eq_left z,List.take_of_length_le (by rw [List.length_drop];exact Nat.le_refl _)]
  · rw [Nat.min_eq_right z,List.drop_of_length_le (Nat.le_refl _),List.drop_of_length_le z];simp
def gst (rows:List (List Int)) (pl:Nat) (busy clear:List (List Int)) (x4:Option D):DS:=[some (.lst (rows.map rowD)),some (.int (pl:Int)),some (.lst (clear.map rowD)),some (.lst (busy.map rowD)),x4]
theorem abs_nat (a:Int):(if a<0 then -a else a)=(a.natAbs:Int):=by split<;>omega
theorem while_gathered {rows:List (List Int)} {w pl b:Nat} (hp:pl<w) (hw:w≤1000) (hN:rows.length≤60) (hb:La.nb b<59999999) {Q1:DF→Prop}
    (hQ:∀ busy clear e f m R x4,La.GI w pl rows.length e f m R (2 ^ La.nb b) rows busy clear→m≤2 ^ b→busy.length≤1→Q1 (.nx (gst rows pl busy clear x4))) :
    ∀ (n:Nat) (busy clear:List (List Int)) (e f m R:Nat) (x4:Option D),La.busySum pl busy≤n→La.GI w pl rows.length e f m R (2 ^ La.nb b) rows busy clear→m≤2 ^ b →
      whileN (bT (bind2 (callF (consD (vF 3) nilF) lenD) (cF (.int 1)) gtD)) (seqG (sortG 3 (vF 3) (callF (consD (bind2 (vF 0) (vF 1) ixD) nilF) absD) [none,some 1]) (seqG (ofG (setL 4 (compF (itF (slF (vF 3) (oS (cF (.int 1))) oN)) (bind1 0) yesT (callF (consD (vF 0) (consD (bind2 (vF 2) (cF (.int 0)) ixD) (consD (vF 1) nilF))) F_lowered) [none,some 1,some 3]))) (seqG (ofG (setF 2 (bind2 (vF 2) (lstF (compF (itF (vF 4)) (bind1 0) (bT (bind2 (bind2 (vF 0) (vF 1) ixD) (cF (.int 0)) eqD)) (vF 0) [none,some 1])) addD))) (ofG (setF 3 (bind2 (lstF (dispF (consD (bind2 (vF 3) (cF (.int 0)) ixD) nilF))) (lstF (compF (itF (vF 4)) (bind1 0) (bT (bind2 (bind2 (vF 0) (vF 1) ixD) (cF (.int 0)) neD)) (vF 0) [none,some 1])) addD)))))) (n+1) (gst rows pl busy clear x4) Q1:=by
  intro n
  induction n with
  | zero =>
    intro busy clear e f m R x4 hs gi hm
    have hb0:busy=[]:=by
      cases busy with
      | nil=>rfl
      | cons r t =>
        have:=gi.bz r List.mem_cons_self
        simp only [La.busySum,List.map_cons,List.sum_cons] at hs
        omega
    subst hb0
    unfold whileN
    refine ⟨false,rfl,?_⟩
    rw [if_neg (by decide)]
    exact hQ _ _ e f m R x4 gi hm (Nat.zero_le _)
  | succ n ih =>
    intro busy clear e f m R x4 hs gi hm
    unfold whileN
    refine ⟨decide (1<(busy.length:Int)),?_,?_⟩
    · simp only [vF,cF,unF,nilF,callF,lstF,dispF,tupF,fsF,compF,oN,oS,bT,yesT,truT,andT,orT,notT,itF,nxF,retF,setF,setL,ifF,forF,seqF,consD,bind2,andD,orD,notD,asB,asI,runD,bind1,bindP,List.length_cons,List.length_nil,List.map_cons,List.map_nil,List.getElem?_cons_zero,List.getElem?_cons_succ,List.set_cons_zero,List.set_cons_succ,Option.join_some,Option.bind_some,Option.map_some,Option.join_none,Option.bind_none,Option.map_none,innD,List.cons_append,List.nil_append,List.replicate,Nat.sub_self,Nat.reduceAdd,Nat.reduceSub,if_true,if_false,gst,lenD,itemsD,gtD,List.length_map]
    by_cases h1:1<(busy.length:Int)
    · rw [decide_eq_true h1,if_pos rfl]
      have lenB:∀ r∈busy,r.length=w:=fun r hr=>gi.len r (List.mem_append_left _ hr)
      have cntb:=gi.cnt
      refine ⟨fun fl=>∃ busy' clear' e' m' R' x4',fl = .nx (gst rows pl busy' clear' x4')∧La.GI w pl rows.length e' 0 m' R' (2 ^ La.nb b) rows busy' clear'∧m'≤2 ^ b∧La.busySum pl busy'≤n,?_,?_⟩
      · refine seqG_mk (fun δ'=>∃ sb:List (List Int),sb.Perm busy∧sb.Pairwise (fun r s=>(La.at' r pl).natAbs≤(La.at' s pl).natAbs)∧δ' = gst rows pl sb clear x4) ?_ ?_
        · refine ⟨busy.map rowD,busy.map fun r=>((La.at' r pl).natAbs:Int),rfl,by rw [List.length_map];omega,by rw [List.length_map,List.length_map],fun i d k hd hk=>?_,fun qs hq hpw=>?_⟩
          · rw [List.getElem?_map] at hd hk
            cases hi:busy[i]? with
            | none=>rw [hi] at hd;cases hd
            | some r =>
              rw [hi] at hd hk
              cases hd
              cases hk
              have hr:=lenB r (List.mem_of_getElem? hi)
              have i1:=ix0_row (r:=r) (p:=pl) (by omega) [some (rowD r),some (.int (pl:Int))] (vF 0) (vF 1) rfl rfl
              show callF _ absD [some (rowD r),some (.int (pl:Int))]=_
              refine (callF_eq (consD_eq i1 rfl)).trans ?_
              simp only [absD,abs_nat]
          · have e1:(busy.map fun r=>((La.at' r pl).natAbs:Int)).zip (busy.map rowD)=busy.map fun r=>(((La.at' r pl).natAbs:Int),rowD r):=by
              rw [List.zip_map']
            rw [e1] at hq
            obtain ⟨sb,hsb,rfl⟩:=perm_lift hq busy rfl
            refine ⟨_,rfl,sb,hsb,?_,?_⟩
            · rw [List.pairwise_map] at hpw
              exact hpw.imp fun {r s} h=>by
                have h':((La.at' r pl).natAbs:Int)≤((La.at' s pl).natAbs:Int):=h
                omega
            · rw [List.map_map];rfl
        · rintro δ' ⟨sb,hsb,hpw,rfl⟩
          have gs:=gi.perm hsb
          have hlen:sb.length=busy.length:=hsb.length_eq
          cases sb with
          | nil=>simp only [List.length_nil] at hlen;omega
          | cons p0 rest =>
            have hrest:rest≠[]:=by
              intro z;subst z
              simp only [List.length_cons,List.length_nil] at hlen;omega
            have ho:∀ r∈rest,(La.at' p0 pl).natAbs≤(La.at' r pl).natAbs:=(List.pairwise_cons.mp hpw).1
            obtain ⟨e',m',R',hm',gt⟩:=gs.turn hp ho hrest
            have hfall:=La.busySum_turn gs ho hrest
            have hsum:=La.busySum_perm (pl:=pl) hsb
            have l0:p0.length=w:=gs.len p0 (by simp)
            have lr:∀ r∈rest,r.length=w:=fun r hr=>gs.len r (by simp [hr])
            have hc0:La.at' p0 pl≠0:=gs.bz p0 List.mem_cons_self
            have hmb:(La.at' p0 pl).natAbs≤2 ^ b:=Nat.le_trans (gs.mb p0 List.mem_cons_self) hm
            have low:∀ r∈rest,F_lowered [rowD r,rowD p0,.int (pl:Int)]=some (rowD (La.lowZ r p0 pl)):=fun r hr =>
              F_lowered_eq (b:=La.nb b) (lr r hr) l0 hp hw hc0 (gs.all r (by simp [hr]) pl) (fun j=>gs.all p0 (by simp) j) hb
            have cnt:=gs.cnt
            have rl:rest.length≤60:=by simp only [List.length_cons] at hlen;omega
            have cl:clear.length≤60:=by omega
            have h2:compD (bind1 0) yesT (callF (consD (vF 0) (consD (bind2 (vF 2) (cF (.int 0)) ixD) (consD (vF 1) nilF))) F_lowered) [none,some (.int (pl:Int)),some (.lst ((p0::rest).map rowD))] (rest.map rowD)=some ((rest.map fun r=>La.lowZ r p0 pl).map rowD):=by
              rw [List.map_map]
              exact compD_map (fun δ=>∃ a,δ=[a,some (.int (pl:Int)),some (.lst ((p0::rest).map rowD))]) rowD _ _ _ ⟨none,rfl⟩ (by
                rintro r hr δ ⟨a,rfl⟩
                refine ⟨[some (rowD r),some (.int pl),some (.lst ((p0::rest).map rowD))],rfl,⟨_,rfl⟩,rfl,?_⟩
                exact (callF_eq (consD_eq rfl (consD_eq ((bind2_eq rfl rfl).trans (ix_head _ _)) (consD_eq rfl rfl)))).trans (low r hr))
            have lowLen:∀ r∈rest.map (fun r=>La.lowZ r p0 pl),r.length=w:=fun r hr=>by
              obtain ⟨q,hq,rfl⟩:=List.mem_map.mp hr
              unfold La.lowZ
              rw [La.subZ_len ((lr q hq).trans l0.symm)];exact lr q hq
            have c1:=comp_eq0 lowLen hp
            have c2:=comp_ne0 lowLen hp
            generalize hleft:rest.map (fun r=>La.lowZ r p0 pl)=left at h2 c1 c2 gt hfall lowLen
            have leftl:left.length≤60:=by rw [← hleft,List.length_map];exact rl
            refine seqG_of (δ':=gst rows pl (p0::rest) clear (some (.lst (left.map rowD)))) ?_ ?_
            · refine (setL_nx (ds:=left.map rowD) ?_).trans rfl
              simp only [compF,itF,slF,oS,oN,cF,vF,gst,asI,List.getElem?_cons_zero,List.getElem?_cons_succ,Option.join_some,Option.bind_some,slD_tail,itemsD,innD,List.map_cons,List.map_nil,Option.bind_none,List.drop_succ_cons,List.drop_zero]
              exact h2
            refine seqG_of (δ':=gst rows pl (p0::rest) (clear++left.filter fun r=>La.at' r pl==0) (some (.lst (left.map rowD)))) ?_ ?_
            · have fl:(left.filter fun r=>La.at' r pl==0).length≤60:=Nat.le_trans (List.length_filter_le _ _) leftl
              have ad:=addD_lst (xs:=clear.map rowD) (ys:=(left.filter fun r=>La.at' r pl==0).map rowD) (by rw [List.length_map,List.length_map];omega)
              refine (setF_nx (d:=.lst ((clear++left.filter fun r=>La.at' r pl==0).map rowD)) ?_).trans rfl
              rw [List.map_append]
              refine (bind2_eq rfl (lstF_eq ?_)).trans ad
              simp only [compF,itF,vF,gst,List.getElem?_cons_zero,List.getElem?_cons_succ,Option.join_some,Option.bind_some,itemsD,innD,List.map_cons,List.map_nil,Option.bind_none]
              exact c1
            refine ofG_mk (fl:=.nx (gst rows pl (p0::left.filter fun r=>La.at' r pl != 0) (clear++left.filter fun r=>La.at' r pl==0) (some (.lst (left.map rowD))))) ?_ ⟨_,_,e',m',R',_,rfl,gt,Nat.le_trans hm' hm,by omega⟩
            have fl:(left.filter fun r=>La.at' r pl != 0).length≤60:=Nat.le_trans (List.length_filter_le _ _) leftl
            have ad:=addD_lst (xs:=[rowD p0]) (ys:=(left.filter fun r=>La.at' r pl != 0).map rowD) (by rw [List.length_map,List.length_singleton];omega)
            refine (setF_nx (d:=.lst ((p0::left.filter fun r=>La.at' r pl != 0).map rowD)) ?_).trans rfl
            refine (bind2_eq (x:=.lst [rowD p0]) (lstF_eq ?_) (lstF_eq ?_)).trans ad
            · have hh:consD (bind2 (vF 3) (cF (.int 0)) ixD) nilF (gst rows pl (p0::rest) (clear++left.filter fun r=>La.at' r pl==0) (some (.lst (left.map rowD))))=some [rowD p0]:=consD_eq ((bind2_eq rfl rfl).trans (ix_head _ _)) rfl
              simp only [dispF,hh,Option.bind_some]
              rfl
            simp only [compF,itF,vF,gst,List.getElem?_cons_zero,List.getElem?_cons_succ,Option.join_some,Option.bind_some,itemsD,innD,List.map_cons,List.map_nil,Option.bind_none]
            exact c2
      · rintro fl ⟨busy',clear',e',m',R',x4',rfl,gi',hm',hs'⟩
        exact ih busy' clear' e' 0 m' R' x4' hs' gi' hm'
    · rw [decide_eq_false h1,if_neg (by decide)]
      exact hQ _ _ e f m R x4 gi hm (by omega)
theorem R_gathered_ok {rows:List (List Int)} {w pl b:Nat} (hl:∀ r∈rows,r.length=w) (hp:pl<w) (hw:w≤1000) (hN:rows.length≤60) (hbd:La.Bd b rows) (hb:La.nb b<59999999) {Z:D→Prop} (hZ:∀ out,La.Gath w pl b (La.nb b) rows out→Z (.lst (out.map rowD))) :
    R_gathered [.lst (rows.map rowD),.int (pl:Int)] Z:=by
  refine ⟨rfl,?_⟩
  show g_gathered [some (.lst (rows.map rowD)),some (.int (pl:Int)),none,none,none] _
  unfold g_gathered
  refine seqG_of (δ':=[some (.lst (rows.map rowD)),some (.int (pl:Int)),some (.lst ((rows.filter fun r=>La.at' r pl==0).map rowD)),none,none]) ((setL_nx (comp_eq0 hl hp)).trans rfl) ?_
  refine seqG_of (δ':=gst rows pl (rows.filter fun r=>La.at' r pl != 0) (rows.filter fun r=>La.at' r pl==0) none) ((setF_nx (lstF_eq (comp_ne0 hl hp))).trans rfl) ?_
  refine seqG_mk (fun δ'=>∃ busy clear e f m R x4,La.GI w pl rows.length e f m R (2 ^ La.nb b) rows busy clear∧m≤2 ^ b∧busy.length≤1∧δ' = gst rows pl busy clear x4)
    ⟨_,while_gathered hp hw hN hb (fun busy clear e f m R x4 gi hm h1=>⟨_,rfl,busy,clear,e,f,m,R,x4,gi,hm,h1,rfl⟩) _ _ _ _ _ _ _ none (Nat.le_refl _) (La.GI.start hl hbd) (Nat.le_refl _)⟩ ?_
  rintro δ' ⟨busy,clear,e,f,m,R,x4,gi,hm,h1,rfl⟩
  have cnt:=gi.cnt
  have ad:=addD_lst (xs:=busy.map rowD) (ys:=clear.map rowD) (by rw [List.length_map,List.length_map];omega)
  rw [← List.map_append] at ad
  exact ofG_mk (fl:=.rt (.lst ((busy++clear).map rowD))) (retF_rt ((bind2_eq rfl rfl).trans ad)) (hZ _ (gi.gath hm h1 rfl))
theorem R_gathered_id {rows:List (List Int)} {w pl:Nat} (hl:∀ r∈rows,r.length=w) (hp:pl<w) (hN:rows.length≤60) (ht:∀ r∈rows.drop 1,La.at' r pl=0) {Z:D→Prop} (hZ:Z (.lst (rows.map rowD))) :
    R_gathered [.lst (rows.map rowD),.int (pl:Int)] Z:=by
  obtain ⟨busy,clear,e1,e2,e3,h1⟩:∃ busy clear,rows.filter (fun r=>La.at' r pl != 0)=busy∧rows.filter (fun r=>La.at' r pl==0)=clear∧busy++clear=rows∧busy.length≤1:=by
    cases rows with
    | nil=>exact ⟨[],[],rfl,rfl,rfl,Nat.zero_le _⟩
    | cons r t =>
      have ht':∀ q∈t,La.at' q pl=0:=fun q hq=>ht q (by simpa using hq)
      have f1:t.filter (fun r=>La.at' r pl != 0)=[]:=List.filter_eq_nil_iff.mpr fun q hq=>by simp [ht' q hq]
      have f2:t.filter (fun r=>La.at' r pl==0)=t:=List.filter_eq_self.mpr fun q hq=>by simp [ht' q hq]
      by_cases z:La.at' r pl=0
      · refine ⟨[],r::t,?_,?_,rfl,Nat.zero_le _⟩
        · rw [List.filter_cons_of_neg (by simp [z]),f1]
        · rw [List.filter_cons_of_pos (by simp [z]),f2]
      · refine ⟨[r],t,?_,?_,rfl,Nat.le_refl _⟩
        · rw [List.filter_cons_of_pos (by simp [z]),f1]
        · rw [List.filter_cons_of_neg (by simp [z]),f2]
  refine ⟨rfl,?_⟩
  show g_gathered [some (.lst (rows.map rowD)),some (.int (pl:Int)),none,none,none] _
  unfold g_gathered
  refine seqG_of (δ':=[some (.lst (rows.map rowD)),some (.int (pl:Int)),some (.lst (clear.map rowD)),none,none]) ((setL_nx (comp_eq0 hl hp)).trans (by rw [e2];rfl)) ?_
  refine seqG_of (δ':=gst rows pl busy clear none) ((setF_nx (lstF_eq (comp_ne0 hl hp))).trans (by rw [e1];rfl)) ?_
  have hlen:busy.length+clear.length=rows.length:=by rw [← e3,List.length_append]
  refine seqG_mk (fun δ'=>δ' = gst rows pl busy clear none) ⟨1,?_⟩ ?_
  · unfold whileN
    refine ⟨decide (1<(busy.length:Int)),?_,?_⟩
    · simp only [vF,cF,unF,nilF,callF,lstF,dispF,tupF,fsF,compF,oN,oS,bT,yesT,truT,andT,orT,notT,itF,nxF,retF,setF,setL,ifF,forF,seqF,consD,bind2,andD,orD,notD,asB,asI,runD,bind1,bindP,List.length_cons,List.length_nil,List.map_cons,List.map_nil,List.getElem?_cons_zero,List.getElem?_cons_succ,List.set_cons_zero,List.set_cons_succ,Option.join_some,Option.bind_some,Option.map_some,Option.join_none,Option.bind_none,Option.map_none,innD,List.cons_append,List.nil_append,List.replicate,Nat.sub_self,Nat.reduceAdd,Nat.reduceSub,if_true,if_false,gst,lenD,itemsD,gtD,List.length_map]
    · rw [decide_eq_false (by omega),if_neg (by decide)]
      exact ⟨_,rfl,rfl⟩
  · rintro δ' rfl
    have ad:=addD_lst (xs:=busy.map rowD) (ys:=clear.map rowD) (by rw [List.length_map,List.length_map];omega)
    rw [← List.map_append,e3] at ad
    exact ofG_mk (fl:=.rt (.lst (rows.map rowD))) (retF_rt ((bind2_eq rfl rfl).trans ad)) hZ
theorem F_stacked_gen {S:List (List Int)} {r:List Int} {pl w:Nat} (hr:r.length=w) (hp:pl<w) (hS:S.length≤100) (low:∀ a∈S,F_lowered [rowD a,rowD (La.lineZ r pl),.int (pl:Int)]=some (rowD (La.lowZ a (La.lineZ r pl) pl))) :
    F_stacked [.lst (S.map rowD),rowD r,.int (pl:Int)]=some (.lst ((La.stackZ S r pl).map rowD)):=by
  refine runD_rt rfl ?_
  refine (seqF_nx (δ':=[some (.lst (S.map rowD)),some (rowD r),some (.int (pl:Int)),some (rowD r)]) rfl).trans ?_
  have i1:=ix0_row (r:=r) (p:=pl) (by omega) [some (.lst (S.map rowD)),some (rowD r),some (.int (pl:Int)),some (rowD r)] (vF 1) (vF 2) rfl rfl
  have tst:bT (bind2 (bind2 (vF 1) (vF 2) ixD) (cF (.int 0)) ltD) [some (.lst (S.map rowD)),some (rowD r),some (.int (pl:Int)),some (rowD r)]=some (decide (La.at' r pl<0)):=bT_eq ((bind2_eq i1 rfl).trans rfl)
  refine (seqF_nx (δ':=[some (.lst (S.map rowD)),some (rowD r),some (.int (pl:Int)),some (rowD (La.lineZ r pl))]) ?_).trans ?_
  · by_cases z:La.at' r pl<0
    · rw [decide_eq_true z] at tst
      refine (ifF_t tst).trans ?_
      have h2:compD (bind1 0) yesT (unF (vF 0) negD) [none] (r.map D.int)=some ((La.negZ r).map D.int):=by
        unfold La.negZ
        rw [List.map_map]
        exact compD_map (fun δ=>∃ a,δ=[a]) D.int _ _ _ ⟨none,rfl⟩ (by
          rintro x _ δ ⟨a,rfl⟩
          exact ⟨[some (.int x)],rfl,⟨_,rfl⟩,rfl,rfl⟩)
      refine (setF_nx (d:=rowD (La.negZ r)) ?_).trans ?_
      · simp only [vF,cF,unF,nilF,callF,lstF,dispF,tupF,fsF,compF,oN,oS,bT,yesT,truT,andT,orT,notT,itF,nxF,retF,setF,setL,ifF,forF,seqF,consD,bind2,andD,orD,notD,asB,asI,runD,bind1,bindP,List.length_cons,List.length_nil,List.map_cons,List.map_nil,List.getElem?_cons_zero,List.getElem?_cons_succ,List.set_cons_zero,List.set_cons_succ,Option.join_some,Option.bind_some,Option.map_some,Option.join_none,Option.bind_none,Option.map_none,innD,List.cons_append,List.nil_append,List.replicate,Nat.sub_self,Nat.reduceAdd,Nat.reduceSub,if_true,if_false,rowD,itemsD,h2,tupleD]
      · unfold La.lineZ;rw [if_pos z];rfl
    · rw [decide_eq_false z] at tst
      refine (ifF_f tst).trans ?_
      unfold La.lineZ;rw [if_neg z];rfl
  · have est:La.stackZ S r pl=(S.map fun a=>La.lowZ a (La.lineZ r pl) pl)++[La.lineZ r pl]:=rfl
    rw [est]
    generalize La.lineZ r pl=line at low
    refine retF_rt ?_
    have h2:compD (bind1 0) yesT (callF (consD (vF 0) (consD (vF 1) (consD (vF 2) nilF))) F_lowered) [none,some (rowD line),some (.int (pl:Int))] (S.map rowD)=some ((S.map fun a=>La.lowZ a line pl).map rowD):=by
      rw [List.map_map]
      exact compD_map (fun δ=>∃ a,δ=[a,some (rowD line),some (.int (pl:Int))]) rowD _ _ _ ⟨none,rfl⟩ (by
        rintro a ha δ ⟨x,rfl⟩
        refine ⟨[some (rowD a),some (rowD line),some (.int (pl:Int))],rfl,⟨_,rfl⟩,rfl,?_⟩
        exact (callF_eq (consD_eq rfl (consD_eq rfl (consD_eq rfl rfl)))).trans (low a ha))
    have ad:=addD_lst (xs:=(S.map fun a=>La.lowZ a line pl).map rowD) (ys:=[rowD line]) (by rw [List.length_map,List.length_map,List.length_singleton];omega)
    refine (bind2_eq (lstF_eq (ds:=(S.map fun a=>La.lowZ a line pl).map rowD) ?_) (lstF_eq (ds:=[rowD line]) rfl)).trans (ad.trans ?_)
    · simp only [compF,itF,vF,List.getElem?_cons_zero,List.getElem?_cons_succ,Option.join_some,Option.bind_some,itemsD,innD,List.map_cons,List.map_nil,Option.bind_none]
      exact h2
    · rw [List.map_append];rfl
def pst (lot:List (List Int)) (w:Nat) (S T:List (List Int)) (x4:Option D):DS:=[some (lotD lot),some (.int (w:Int)),some (.lst (S.map rowD)),some (.lst (T.map rowD)),x4]
theorem plain_test (lot:List (List Int)) (w k:Nat) (S T:List (List Int)) (hT:∀ r∈T,r.length=w) (hk:k<w) :
    andT (bT (bind2 (callF (consD (vF 3) nilF) lenD) (cF (.int 0)) gtD)) (bT (bind2 (bind2 (bind2 (vF 3) (cF (.int 0)) ixD) (vF 4) ixD) (cF (.int 0)) neD)) (pst lot w S T (some (.int (k:Int))))=some (match T with | []=>false | r::_=>La.at' r k != 0):=by
  cases T with
  | nil=>rfl
  | cons r t =>
    have i0:bind2 (vF 3) (cF (.int 0)) ixD (pst lot w S (r::t) (some (.int (k:Int))))=some (rowD r):=(bind2_eq rfl rfl).trans (ix_head _ _)
    have hl:bT (bind2 (callF (consD (vF 3) nilF) lenD) (cF (.int 0)) gtD) (pst lot w S (r::t) (some (.int (k:Int))))=some true:=by
      refine bT_eq ?_
      simp only [vF,cF,unF,nilF,callF,lstF,dispF,tupF,fsF,compF,oN,oS,bT,yesT,truT,andT,orT,notT,itF,nxF,retF,setF,setL,ifF,forF,seqF,consD,bind2,andD,orD,notD,asB,asI,runD,bind1,bindP,List.length_cons,List.length_nil,List.map_cons,List.map_nil,List.getElem?_cons_zero,List.getElem?_cons_succ,List.set_cons_zero,List.set_cons_succ,Option.join_some,Option.bind_some,Option.map_some,Option.join_none,Option.bind_none,Option.map_none,innD,List.cons_append,List.nil_append,List.replicate,Nat.sub_self,Nat.reduceAdd,Nat.reduceSub,if_true,if_false,pst,lenD,itemsD,gtD]
      congr 2
      exact decide_eq_true (by show (0:Int)<((t.map rowD).length+1:Nat);omega)
    refine andT_t hl (bT_eq ((bind2_eq ((bind2_eq i0 rfl).trans (ixD_row (by rw [hT r List.mem_cons_self];exact hk))) rfl).trans (ne0 _)))
noncomputable def plain_if:DS→Option DF:=ifF (andT (bT (bind2 (callF (consD (vF 3) nilF) lenD) (cF (.int 0)) gtD)) (bT (bind2 (bind2 (bind2 (vF 3) (cF (.int 0)) ixD) (vF 4) ixD) (cF (.int 0)) neD))) (seqF (setF 2 (callF (consD (vF 2) (consD (bind2 (vF 3) (cF (.int 0)) ixD) (consD (vF 4) nilF))) F_stacked)) (setF 3 (slF (vF 3) (oS (cF (.int 1))) oN))) nxF
theorem plain_skip {lot S T:List (List Int)} {w k:Nat} (hT:∀ r∈T,r.length=w) (hk:k<w) (h:∀ r t,T=r::t→La.at' r k=0):plain_if (pst lot w S T (some (.int (k:Int))))=some (.nx (pst lot w S T (some (.int (k:Int))))):=by
  refine (ifF_f ((plain_test lot w k S T hT hk).trans ?_)).trans rfl
  cases T with
  | nil=>rfl
  | cons r t =>
    show some (La.at' r k != 0)=_
    rw [h r t rfl];rfl
theorem plain_push {lot S S' t:List (List Int)} {r:List Int} {w k:Nat} (hT:∀ q∈r::t,q.length=w) (hk:k<w) (h:La.at' r k≠0) (hs:F_stacked [.lst (S.map rowD),rowD r,.int (k:Int)]=some (.lst (S'.map rowD))) :
    plain_if (pst lot w S (r::t) (some (.int (k:Int))))=some (.nx (pst lot w S' t (some (.int (k:Int))))):=by
  refine (ifF_t ((plain_test lot w k S (r::t) hT hk).trans ?_)).trans ?_
  · show some (La.at' r k != 0)=_
    simp [h]
  · have i0:bind2 (vF 3) (cF (.int 0)) ixD (pst lot w S (r::t) (some (.int (k:Int))))=some (rowD r):=(bind2_eq rfl rfl).trans (ix_head _ _)
    refine (seqF_nx (δ':=pst lot w S' (r::t) (some (.int (k:Int)))) ((setF_nx ((callF_eq (consD_eq rfl (consD_eq i0 (consD_eq rfl rfl)))).trans hs)).trans rfl)).trans ?_
    refine (setF_nx (d:=.lst (t.map rowD)) ?_).trans rfl
    simp only [slF,oS,oN,cF,vF,pst,asI,List.getElem?_cons_zero,List.getElem?_cons_succ,Option.join_some,Option.bind_some,slD_tail,List.map_cons,List.drop_succ_cons,List.drop_zero]
theorem plain_for {lot:List (List Int)} {w:Nat} {Q:DF→Prop} (J:Nat→List (List Int)→List (List Int)→Prop)
    (step:∀ (k:Nat) (S T:List (List Int)),k<w→J k S T→seqG (callG 3 (consD (vF 3) (consD (vF 4) nilF)) R_gathered) (ofG plain_if) (pst lot w S T (some (.int (k:Int)))) fun fl=>∃ S' T',J (k+1) S' T'∧fl = .nx (pst lot w S' T' (some (.int (k:Int)))))
    (fin:∀ (S T:List (List Int)) (x4:Option D),J w S T→Q (.nx (pst lot w S T x4))):∀ (m k:Nat) (S T:List (List Int)) (x4:Option D),k+m=w→J k S T →
      forN (bind1 4) (seqG (callG 3 (consD (vF 3) (consD (vF 4) nilF)) R_gathered) (ofG plain_if)) ((List.range' k m).map fun (j:Nat)=>D.int (j:Int)) (pst lot w S T x4) Q
  | 0,k,S,T,x4,e,h=>by
    obtain rfl:k=w:=by omega
    exact fin S T x4 h
  | m+1,k,S,T,x4,e,h=>by
    rw [List.range'_succ,List.map_cons]
    unfold forN
    refine ⟨pst lot w S T (some (.int (k:Int))),rfl,_,step k S T (by omega) h,?_⟩
    rintro fl ⟨S',T',h',rfl⟩
    exact plain_for J step fin m (k+1) S' T' _ (by omega) h'
theorem R_plain_gen {lot:List (List Int)} {w:Nat} {Z:D→Prop} (hlot:lot.length≤60) (hw:w≤1000) (J:Nat→List (List Int)→List (List Int)→Prop)
    (step:∀ (k:Nat) (S T:List (List Int)),k<w→J k S T→seqG (callG 3 (consD (vF 3) (consD (vF 4) nilF)) R_gathered) (ofG plain_if) (pst lot w S T (some (.int (k:Int)))) fun fl=>∃ S' T',J (k+1) S' T'∧fl = .nx (pst lot w S' T' (some (.int (k:Int)))))
    (start:J 0 [] lot) (fin:∀ (S T:List (List Int)),J w S T→Z (lotD S)):R_plain [lotD lot,.int (w:Int)] Z:=by
  refine ⟨rfl,?_⟩
  show g_plain [some (lotD lot),some (.int (w:Int)),none,none,none] _
  unfold g_plain
  refine seqG_of (δ':=[some (lotD lot),some (.int (w:Int)),some (.lst []),none,none]) rfl ?_
  refine seqG_of (δ':=pst lot w [] lot none) ?_ ?_
  · refine (setF_nx (d:=.lst (lot.map rowD)) (lstF_eq ?_)).trans rfl
    simp only [vF,cF,unF,nilF,callF,lstF,dispF,tupF,fsF,compF,oN,oS,bT,yesT,truT,andT,orT,notT,itF,nxF,retF,setF,setL,ifF,forF,seqF,consD,bind2,andD,orD,notD,asB,asI,runD,bind1,bindP,List.length_cons,List.length_nil,List.map_cons,List.map_nil,List.getElem?_cons_zero,List.getElem?_cons_succ,List.set_cons_zero,List.set_cons_succ,Option.join_some,Option.bind_some,Option.map_some,Option.join_none,Option.bind_none,Option.map_none,innD,List.cons_append,List.nil_append,List.replicate,Nat.sub_self,Nat.reduceAdd,Nat.reduceSub,if_true,if_false,lotD,list1,itemsD]
  refine seqG_mk (fun δ'=>∃ S T x4,J w S T∧δ' = pst lot w S T x4) ⟨(List.range w).map fun (j:Nat)=>D.int (j:Int),?_,?_⟩ ?_
  · have hf:fit (w:Int).natAbs=true:=fit_of (by omega)
    simp only [vF,cF,unF,nilF,callF,lstF,dispF,tupF,fsF,compF,oN,oS,bT,yesT,truT,andT,orT,notT,itF,nxF,retF,setF,setL,ifF,forF,seqF,consD,bind2,andD,orD,notD,asB,asI,runD,bind1,bindP,List.length_cons,List.length_nil,List.map_cons,List.map_nil,List.getElem?_cons_zero,List.getElem?_cons_succ,List.set_cons_zero,List.set_cons_succ,Option.join_some,Option.bind_some,Option.map_some,Option.join_none,Option.bind_none,Option.map_none,innD,List.cons_append,List.nil_append,List.replicate,Nat.sub_self,Nat.reduceAdd,Nat.reduceSub,if_true,if_false,pst,range1D,hf,Int.toNat_natCast,rangeD_map]
  · rw [List.range_eq_range']
    exact plain_for J step (fun S T x4 h=>⟨_,rfl,S,T,x4,h,rfl⟩) w 0 [] lot none (by omega) start
  · rintro δ' ⟨S,T,x4,h,rfl⟩
    exact ofG_mk (fl:=.rt (lotD S)) (retF_rt (by simp only [vF,cF,unF,nilF,callF,lstF,dispF,tupF,fsF,compF,oN,oS,bT,yesT,truT,andT,orT,notT,itF,nxF,retF,setF,setL,ifF,forF,seqF,consD,bind2,andD,orD,notD,asB,asI,runD,bind1,bindP,List.length_cons,List.length_nil,List.map_cons,List.map_nil,List.getElem?_cons_zero,List.getElem?_cons_succ,List.set_cons_zero,List.set_cons_succ,Option.join_some,Option.bind_some,Option.map_some,Option.join_none,Option.bind_none,Option.map_none,innD,List.cons_append,List.nil_append,List.replicate,Nat.sub_self,Nat.reduceAdd,Nat.reduceSub,if_true,if_false,pst,tupleD,itemsD,lotD])) (fin S T h)
theorem R_plain_small {lot:List (List Int)} {w b:Nat} (hl:∀ r∈lot,r.length=w) (hlot:lot.length≤60) (hw:w≤1000) (hbd:La.Bd b lot) (hbs:La.ss b (min w lot.length)+La.bb b (min w lot.length)<59000000) {Z:D→Prop} (hZ:∀ S,La.IsPl w lot S→Z (lotD S)) :
    R_plain [lotD lot,.int (w:Int)] Z:=by
  have bmono:∀ k d,La.bb b k≤La.bb b (k+d):=fun k d=>by
    induction d with
    | zero=>exact Nat.le_refl _
    | succ d ih=>exact Nat.le_trans ih (La.bb_le b (k+d))
  have smono:∀ k d,La.ss b k≤La.ss b (k+d):=fun k d=>by
    induction d with
    | zero=>exact Nat.le_refl _
    | succ d ih=>exact Nat.le_trans ih (by show _≤La.ss b (k+d)+La.bb b (k+d+1)+1;omega)
  refine R_plain_gen hlot hw (fun k S T=>La.PI w b k lot S T) (fun k S T hk h=>?_) (La.PI.start hl hbd) fun S T h=>hZ S h.done
  have cnt:=h.cnt
  by_cases z:∀ r∈T,La.at' r k=0
  · refine seqG_mk (fun δ'=>δ' = pst lot w S T (some (.int (k:Int)))) ⟨_,rfl,R_gathered_id h.lenT hk (by omega) (fun r hr=>z r (List.mem_of_mem_drop hr)) ⟨_,rfl,rfl⟩⟩ ?_
    rintro δ' rfl
    exact ofG_mk (plain_skip h.lenT hk fun r t e=>z r (by rw [e];exact List.mem_cons_self)) ⟨S,T,h.skip z,rfl⟩
  · have tn:1≤T.length:=by
      cases T with
      | nil=>exact (z fun r hr=>nomatch hr).elim
      | cons r t=>simp
    have sl:=h.slen
    have hm:S.length+1≤min w lot.length:=Nat.le_min.mpr ⟨by omega,by omega⟩
    generalize min w lot.length=n at hm hbs
    have bk:La.bb b (S.length+1)≤La.bb b n:=by have:=bmono (S.length+1) (n-(S.length+1));rwa [show S.length+1+(n-(S.length+1))=n by omega] at this
    have sk:La.ss b S.length≤La.ss b n:=by have:=smono S.length (n-S.length);rwa [show S.length+(n-S.length)=n by omega] at this
    refine seqG_mk (fun δ'=>∃ T',La.Gath w k (La.bb b S.length) (La.bb b (S.length+1)) T T'∧δ' = pst lot w S T' (some (.int (k:Int)))) ⟨_,rfl,R_gathered_ok h.lenT hk hw (by omega) h.bT (by show La.bb b (S.length+1)<_;omega) fun out g=>⟨_,rfl,out,g,rfl⟩⟩ ?_
    rintro δ' ⟨T',g,rfl⟩
    obtain ⟨r,t,rfl,hr0⟩:=g.head_ne z
    have lenr:r.length=w:=g.len r List.mem_cons_self
    have lenL:(La.lineZ r k).length=w:=(La.lineZ_len r k).trans lenr
    have st:=F_stacked_gen (S:=S) (r:=r) (pl:=k) lenr hk (by omega) fun a ha =>
      F_lowered_eq (b:=La.ss b n+La.bb b n) (h.lenS a ha) lenL hk hw (by have:=La.lineZ_pos hr0;omega)
        (Nat.le_trans (h.bS a ha k) (Nat.pow_le_pow_right (by decide) (by omega))) (fun j=>by rw [La.lineZ_abs];exact Nat.le_trans (g.bd r List.mem_cons_self j) (Nat.pow_le_pow_right (by decide) (by omega))) (by omega)
    exact ofG_mk (plain_push g.len hk hr0 st) ⟨_,t,h.push g hr0,rfl⟩
theorem F_lowered_id {r l:List Int} {p w:Nat} (hr:r.length=w) (hl:l.length=w) (hp:p<w) (hw:w≤1000) (h0:0≤La.at' r p) (h1:La.at' r p<La.at' l p):F_lowered [rowD r,rowD l,.int (p:Int)]=some (rowD (La.lowZ r l p)):=by
  have hq:(La.at' r p).fdiv (La.at' l p)=0:=Int.fdiv_eq_zero_of_lt h0 h1
  have e:=F_less_eq r l ((La.at' r p).fdiv (La.at' l p)) (by omega) fun c hc=>by rw [hq];exact okMul_l (by decide) (by decide)
  have i1:=ixD_row (r:=r) (p:=p) (by omega)
  have i2:=ixD_row (r:=l) (p:=p) (by omega)
  have f1:=fdivD_int (i:=La.at' r p) (show La.at' l p≠0 by omega)
  simp only [F_lowered,g_lowered,vF,cF,unF,nilF,callF,lstF,dispF,tupF,fsF,compF,oN,oS,bT,yesT,truT,andT,orT,notT,itF,nxF,retF,setF,setL,ifF,forF,seqF,consD,bind2,andD,orD,notD,asB,asI,runD,bind1,bindP,List.length_cons,List.length_nil,List.map_cons,List.map_nil,List.getElem?_cons_zero,List.getElem?_cons_succ,List.set_cons_zero,List.set_cons_succ,Option.join_some,Option.bind_some,Option.map_some,Option.join_none,Option.bind_none,Option.map_none,innD,List.cons_append,List.nil_append,List.replicate,Nat.sub_self,Nat.reduceAdd,Nat.reduceSub,if_true,if_false,i1,i2,f1,e,La.lowZ]
theorem lowZ_id {r l:List Int} {p:Nat} (hl:r.length=l.length) (h0:0≤La.at' r p) (h1:La.at' r p<La.at' l p):La.lowZ r l p=r:=by
  have hq:(La.at' r p).fdiv (La.at' l p)=0:=Int.fdiv_eq_zero_of_lt h0 h1
  unfold La.lowZ
  rw [hq]
  refine La.fv_inj (La.subZ_len hl) ?_
  rw [La.fv_subZ hl]
  funext j
  simp [La.ax]
theorem R_plain_id {lot:List (List Int)} {w:Nat} (hl:∀ r∈lot,r.length=w) (hlot:lot.length≤60) (hw:w≤1000) (hp:La.IsPl w lot lot) {Z:D→Prop} (hZ:Z (lotD lot)) :
    R_plain [lotD lot,.int (w:Int)] Z:=by
  obtain ⟨ls0,p0,q0⟩:=hp.pl
  refine R_plain_gen hlot hw (fun k S T=>S++T=lot∧∃ ls,La.Pl k ls (T.map La.fv)∧(∀ x∈ls,x<w)∧∀ a∈S,La.Red La.below (La.fv a) ls (T.map La.fv)) (fun k S T hk h=>?_) ⟨rfl,ls0,p0,q0,fun a ha=>nomatch ha⟩ fun S T h=>?_
  · obtain ⟨e,ls,p,q,rd⟩:=h
    have lenS:∀ a∈S,a.length=w:=fun a ha=>hl a (by rw [← e];exact List.mem_append_left _ ha)
    have lenT:∀ a∈T,a.length=w:=fun a ha=>hl a (by rw [← e];exact List.mem_append_right _ ha)
    have cnt:S.length+T.length=lot.length:=by rw [← e,List.length_append]
    have tailz:∀ r∈T.drop 1,La.at' r k=0:=fun r hr=>by
      cases T with
      | nil=>cases hr
      | cons r0 T' =>
        cases ls with
        | nil=>exact p.elim
        | cons l ls =>
          obtain ⟨a1,a2,a3,a4,a5⟩:=p
          exact La.Ec.zero a5.ec (La.fv r) (List.mem_map_of_mem (by simpa using hr)) k (by omega)
    refine seqG_mk (fun δ'=>δ' = pst lot w S T (some (.int (k:Int)))) ⟨_,rfl,R_gathered_id lenT hk (by omega) tailz ⟨_,rfl,rfl⟩⟩ ?_
    rintro δ' rfl
    cases T with
    | nil=>exact ofG_mk (plain_skip lenT hk fun r t e=>nomatch e) ⟨S,[],⟨e,ls,by cases ls with | nil=>trivial | cons=>exact p.elim,q,rd⟩,rfl⟩
    | cons r0 T' =>
      cases ls with
      | nil=>exact p.elim
      | cons l ls =>
        obtain ⟨a1,a2,a3,a4,a5⟩:=p
        by_cases z:l=k
        · subst z
          have z0:La.at' r0 l≠0:=by have:0<La.at' r0 l:=a3;omega
          have line:La.lineZ r0 l=r0:=by unfold La.lineZ;rw [if_neg (by have:0<La.at' r0 l:=a3;omega)]
          have bnd:∀ a∈S,0≤La.at' a l∧La.at' a l<La.at' r0 l:=fun a ha=>(rd a ha).1
          have st:=F_stacked_gen (S:=S) (r:=r0) (pl:=l) (lenT r0 List.mem_cons_self) hk (by omega) fun a ha=>by
            rw [line];exact F_lowered_id (lenS a ha) (lenT r0 List.mem_cons_self) hk hw (bnd a ha).1 (bnd a ha).2
          have es:La.stackZ S r0 l=S++[r0]:=by
            unfold La.stackZ
            rw [line]
            congr 1
            conv=>rhs;rw [← List.map_id S]
            exact List.map_congr_left fun a ha=>lowZ_id ((lenS a ha).trans (lenT r0 List.mem_cons_self).symm) (bnd a ha).1 (bnd a ha).2
          rw [es] at st
          refine ofG_mk (plain_push lenT hk z0 st) ⟨_,T',⟨by rw [List.append_assoc];exact e,ls,a5,fun x hx=>q x (List.mem_cons_of_mem _ hx),fun a ha=>?_⟩,rfl⟩
          rcases List.mem_append.mp ha with ha | ha
          · exact (rd a ha).2
          · rw [List.mem_singleton.mp ha];exact a4
        · refine ofG_mk (plain_skip lenT hk fun r' t' e'=>?_) ⟨S,r0::T',⟨e,l::ls,⟨by omega,a2,a3,a4,a5⟩,q,rd⟩,rfl⟩
          cases e'
          exact a2 k (by omega)
  · obtain ⟨e,ls,p,q,rd⟩:=h
    have:T=[]:=by
      cases T with
      | nil=>rfl
      | cons r0 T' =>
        cases ls with
        | nil=>exact p.elim
        | cons l ls =>
          have h1:=p.1
          have h2:=q l List.mem_cons_self
          omega
    subst this
    rw [List.append_nil] at e
    subst e
    exact hZ
theorem lift_plain (ds:List D) (d:D) (h:F_plain ds=some d):R_plain ds (· = d):=by
  obtain ⟨rows,w,P,rfl,⟨hl,hn,hw,hc⟩,hp,rfl⟩:=F_plain_some h
  rcases hc with ⟨b,h1,h2⟩ | h1
  · exact R_plain_small hl hn hw h1 h2 fun S hS=>by rw [hS.uniq hp (La.Eqv.refl _)]
  · exact R_plain_id hl hn hw h1 (by rw [h1.uniq hp (La.Eqv.refl _)])
theorem F_cell (ns:List Int) (k:Nat):F__law_cell [.fro (ns.map D.int),.int k]=some (.int (cellZ ns k)):=by
  have e:F__law_cell [.fro (ns.map D.int),.int k]=if (k:Int)<ns.length then atI (ns.map D.int) k else some (.int 0):=by
    simp only [F__law_cell,g__law_cell,vF,cF,unF,nilF,callF,lstF,dispF,tupF,fsF,compF,oN,oS,bT,yesT,truT,andT,orT,notT,itF,nxF,retF,setF,setL,ifF,forF,seqF,consD,bind2,andD,orD,notD,asB,asI,runD,bind1,bindP,List.length_cons,List.length_nil,List.map_cons,List.map_nil,List.getElem?_cons_zero,List.getElem?_cons_succ,List.set_cons_zero,List.set_cons_succ,Option.join_some,Option.bind_some,Option.map_some,Option.join_none,Option.bind_none,Option.map_none,innD,List.cons_append,List.nil_append,List.replicate,Nat.sub_self,Nat.reduceAdd,Nat.reduceSub,if_true,if_false,lenD,itemsD,ltD,ixD,List.length_map]
    by_cases h:(k:Int)<(ns.length:Int)
    · simp only [h,decide_true,if_true]
      rw [atI_map]
      cases atI ns (k:Int)<;>rfl
    · simp only [h,decide_false,if_false,Bool.false_eq_true];rfl
  rw [e]
  unfold cellZ
  by_cases h:(k:Int)<(ns.length:Int)
  · rw [if_pos h,atI_nat (v:=D.int (ns.getD k 0))]
    have hk:k<ns.length:=by omega
    simp [List.getD,List.getElem?_eq_getElem hk]
  · rw [if_neg h]
    simp [List.getD,List.getElem?_eq_none (show ns.length≤k by omega)]
theorem F_mix (c p m:Int) (hp:p≠0) (hm:m≠0):F__law_mix [.int c,.int p,.int m]=some (.int (mixZ c p m)):=by
  have h0:okMul c 48271=true:=okMul_r (by decide) (by decide)
  simp only [F__law_mix,g__law_mix,vF,cF,unF,nilF,callF,lstF,dispF,tupF,fsF,compF,oN,oS,bT,yesT,truT,andT,orT,notT,itF,nxF,retF,setF,setL,ifF,forF,seqF,consD,bind2,andD,orD,notD,asB,asI,runD,bind1,bindP,List.length_cons,List.length_nil,List.map_cons,List.map_nil,List.getElem?_cons_zero,List.getElem?_cons_succ,List.set_cons_zero,List.set_cons_succ,Option.join_some,Option.bind_some,Option.map_some,Option.join_none,Option.bind_none,Option.map_none,innD,List.cons_append,List.nil_append,List.replicate,Nat.sub_self,Nat.reduceAdd,Nat.reduceSub,if_true,if_false,mulD,modD,h0,hp,hm,mixZ]
theorem F_row (c:Int) (w:Nat) (hw:w≤1000):F__law_row [.int c,.int w]=some (rowD (rowZ c w)):=by
  have hf:fit (w:Int).natAbs=true:=fit_of (by omega)
  simp only [F__law_row,g__law_row,vF,cF,unF,nilF,callF,lstF,dispF,tupF,fsF,compF,oN,oS,bT,yesT,truT,andT,orT,notT,itF,nxF,retF,setF,setL,ifF,forF,seqF,consD,bind2,andD,orD,notD,asB,asI,runD,bind1,bindP,List.length_cons,List.length_nil,List.map_cons,List.map_nil,List.getElem?_cons_zero,List.getElem?_cons_succ,List.set_cons_zero,List.set_cons_succ,Option.join_some,Option.bind_some,Option.map_some,Option.join_none,Option.bind_none,Option.map_none,innD,List.cons_append,List.nil_append,List.replicate,Nat.sub_self,Nat.reduceAdd,Nat.reduceSub,if_true,if_false,range1D,hf,Int.toNat_natCast,rangeD_map]
  rw [compD_map (fun δ=>∃ a,δ=[a,some (.int c)]) (fun (k:Nat)=>D.int (k:Int)) (fun (k:Nat)=>D.int (mixZ (c+11*(k:Int)) 9973 13-6)) (List.range w) _ ⟨none,rfl⟩]
  · simp only [Option.map_some,Option.bind_some,tupleD,itemsD,rowD,rowZ,List.map_map]
    rfl
  · rintro k _ δ ⟨a,rfl⟩
    have h0:okMul 11 (k:Int)=true:=okMul_l (by decide) (by decide)
    refine ⟨[some (.int k),some (.int c)],rfl,⟨_,rfl⟩,rfl,?_⟩
    simp only [vF,cF,unF,nilF,callF,lstF,dispF,tupF,fsF,compF,oN,oS,bT,yesT,truT,andT,orT,notT,itF,nxF,retF,setF,setL,ifF,forF,seqF,consD,bind2,andD,orD,notD,asB,asI,runD,bind1,bindP,List.length_cons,List.length_nil,List.map_cons,List.map_nil,List.getElem?_cons_zero,List.getElem?_cons_succ,List.set_cons_zero,List.set_cons_succ,Option.join_some,Option.bind_some,Option.map_some,Option.join_none,Option.bind_none,Option.map_none,innD,List.cons_append,List.nil_append,List.replicate,Nat.sub_self,Nat.reduceAdd,Nat.reduceSub,if_true,if_false,mulD,addD,subD,h0,F_mix _ _ _ (show (9973:Int)≠0 by decide) (show (13:Int)≠0 by decide)]
theorem F_sum_gen (dc dl:D) (cs:List Int) (rows:List (List Int)) (w:Nat) (hw:w≤1000) (hc:itemsD dc=some (cs.map D.int)) (hl:itemsD dl=some (rows.map rowD)) (hs:∀ c∈cs,∀ r∈rows,∀ x∈r,okMul c x=true) :
    F__law_sum [dc,dl,.int w]=some (rowD (sumZ cs rows w)):=by
  have hf:fit (w:Int).natAbs=true:=fit_of (by omega)
  have h1:compD (bind1 0) yesT (cF (.int 0)) [none] ((List.range w).map fun (k:Nat)=>D.int (k:Int))=some ((List.range w).map fun _=>D.int 0) :=
    compD_map (fun δ=>∃ a,δ=[a]) _ _ _ _ ⟨none,rfl⟩ (by rintro k _ δ ⟨a,rfl⟩;exact ⟨_,rfl,⟨_,rfl⟩,rfl,rfl⟩)
  have h1':((List.range w).map fun (_:Nat)=>D.int 0)=(List.replicate w (0:Int)).map D.int:=by
    rw [List.map_const',List.length_range,List.map_replicate]
  obtain ⟨δ',e2,x4,x5,rfl⟩:=forD_map (h:=bindP 4 5) (gb:=setL 3 (compF (fsF (consD (vF 3) (consD (vF 5) nilF)) zip2) (bindP 0 1) yesT (bind2 (vF 0) (bind2 (vF 2) (vF 1) mulD) addD) [none,none,some 4]))
    (fun (acc:List Int) δ=>∃ x4 x5,δ=[some dc,some dl,some (.int w),some (.lst (acc.map D.int)),x4,x5]) (fun (p:Int × List Int)=>D.tup [.int p.1,rowD p.2]) addZ (cs.zip rows) (List.replicate w 0)
    [some dc,some dl,some (.int w),some (.lst ((List.replicate w (0:Int)).map D.int)),none,none] ⟨_,_,rfl⟩ (by
      rintro ⟨c,r⟩ hm acc δ ⟨x4,x5,rfl⟩
      have hcs:=hs c (List.of_mem_zip hm).1 r (List.of_mem_zip hm).2
      refine ⟨[some dc,some dl,some (.int w),some (.lst (acc.map D.int)),some (.int c),some (rowD r)],_,rfl,?_,⟨some (.int c),some (rowD r),rfl⟩⟩
      have h2:compD (bindP 0 1) yesT (bind2 (vF 0) (bind2 (vF 2) (vF 1) mulD) addD) [none,none,some (.int c)] ((acc.zip r).map fun p=>D.tup [.int p.1,.int p.2])=some ((acc.zip r).map fun p=>D.int (p.1+c*p.2)) :=
        compD_map (fun δ=>∃ a b,δ=[a,b,some (.int c)]) _ _ _ _ ⟨none,none,rfl⟩ (by
          rintro ⟨a,b⟩ hab δ ⟨y,z,rfl⟩
          refine ⟨[some (.int a),some (.int b),some (.int c)],rfl,⟨_,_,rfl⟩,rfl,?_⟩
          simp only [vF,cF,unF,nilF,callF,lstF,dispF,tupF,fsF,compF,oN,oS,bT,yesT,truT,andT,orT,notT,itF,nxF,retF,setF,setL,ifF,forF,seqF,consD,bind2,andD,orD,notD,asB,asI,runD,bind1,bindP,List.length_cons,List.length_nil,List.map_cons,List.map_nil,List.getElem?_cons_zero,List.getElem?_cons_succ,List.set_cons_zero,List.set_cons_succ,Option.join_some,Option.bind_some,Option.map_some,Option.join_none,Option.bind_none,Option.map_none,innD,List.cons_append,List.nil_append,List.replicate,Nat.sub_self,Nat.reduceAdd,Nat.reduceSub,if_true,if_false,mulD,addD,hcs b (List.of_mem_zip hab).2])
      simp only [setL,compF,fsF,consD,vF,nilF,zip2,itemsD,rowD,List.getElem?_cons_zero,List.getElem?_cons_succ,Option.join_some,Option.bind_some,Option.map_some,zipD_map,innD,List.map_cons,List.map_nil,Option.bind_none,h2]
      simp only [addZ,zipWith_zip,List.map_map]
      rfl)
  simp only [F__law_sum,g__law_sum,seqF,setL,compF,fsF,consD,vF,nilF,runD,List.length_cons,List.length_nil,Nat.reduceAdd,if_true,List.map_cons,List.map_nil,List.replicate,Nat.reduceSub,List.cons_append,List.nil_append,List.getElem?_cons_zero,List.getElem?_cons_succ,Option.join_some,Option.bind_some,Option.map_some,range1D,hf,Int.toNat_natCast,rangeD_map,innD,Option.bind_none,h1,h1',List.set_cons_succ,List.set_cons_zero,forF,zip2,hc,hl,zipD_map]
  rw [e2]
  simp only [vF,cF,unF,nilF,callF,lstF,dispF,tupF,fsF,compF,oN,oS,bT,yesT,truT,andT,orT,notT,itF,nxF,retF,setF,setL,ifF,forF,seqF,consD,bind2,andD,orD,notD,asB,asI,runD,bind1,bindP,List.length_cons,List.length_nil,List.map_cons,List.map_nil,List.getElem?_cons_zero,List.getElem?_cons_succ,List.set_cons_zero,List.set_cons_succ,Option.join_some,Option.bind_some,Option.map_some,Option.join_none,Option.bind_none,Option.map_none,innD,List.cons_append,List.nil_append,List.replicate,Nat.sub_self,Nat.reduceAdd,Nat.reduceSub,if_true,if_false,tupleD,itemsD,rowD,sumZ]
theorem F_sum (dc dl:D) (cs:List Int) (rows:List (List Int)) (w:Nat) (hw:w≤1000) (hc:itemsD dc=some (cs.map D.int)) (hl:itemsD dl=some (rows.map rowD)) (hs:∀ c∈cs,small c) :
    F__law_sum [dc,dl,.int w]=some (rowD (sumZ cs rows w)):=F_sum_gen dc dl cs rows w hw hc hl fun c hc _ _ _ _=>okMul_l (hs c hc).1 (hs c hc).2
theorem F_wide (ns:List Int) (m:Nat) (hm:0<m):∃ w:Nat,1≤w∧w≤m∧F__law_wide [.fro (ns.map D.int),.int m]=some (.int w):=by
  obtain ⟨h1,h2⟩:=mixZ_b (cellZ ns 0) 9967 m (by omega)
  refine ⟨(1+mixZ (cellZ ns 0) 9967 m).toNat,by omega,by omega,?_⟩
  have hc:=F_cell ns 0
  rw [show ((0:Nat):Int)=0 from rfl] at hc
  have e:((1+mixZ (cellZ ns 0) 9967 m).toNat:Int)=1+mixZ (cellZ ns 0) 9967 m:=by omega
  rw [e]
  simp only [F__law_wide,g__law_wide,vF,cF,unF,nilF,callF,lstF,dispF,tupF,fsF,compF,oN,oS,bT,yesT,truT,andT,orT,notT,itF,nxF,retF,setF,setL,ifF,forF,seqF,consD,bind2,andD,orD,notD,asB,asI,runD,bind1,bindP,List.length_cons,List.length_nil,List.map_cons,List.map_nil,List.getElem?_cons_zero,List.getElem?_cons_succ,List.set_cons_zero,List.set_cons_succ,Option.join_some,Option.bind_some,Option.map_some,Option.join_none,Option.bind_none,Option.map_none,innD,List.cons_append,List.nil_append,List.replicate,Nat.sub_self,Nat.reduceAdd,Nat.reduceSub,if_true,if_false,hc,F_mix _ _ _ (show (9967:Int)≠0 by decide) (show (m:Int)≠0 by omega),addD]
theorem rowZ_bd (c:Int) (w:Nat):∀ x∈rowZ c w,x.natAbs≤6:=fun x hx=>by
  obtain ⟨k,_,rfl⟩:=List.mem_map.mp hx
  have:=mixZ_b (c+11*(k:Int)) 9973 13 (by decide)
  omega
theorem foldl_addZ_bd {C M:Nat}:∀ (ps:List (Int × List Int)) (acc:List Int) (A:Nat),(∀ x∈acc,x.natAbs≤A)→(∀ p∈ps,p.1.natAbs≤C∧∀ x∈p.2,x.natAbs≤M)→∀ x∈ps.foldl addZ acc,x.natAbs≤A+ps.length*(C*M)
  | [],acc,A,h,_,x,hx=>by simpa using h x hx
  | p::ps,acc,A,h,hp,x,hx=>by
    rw [List.foldl_cons] at hx
    have:=foldl_addZ_bd ps (addZ acc p) (A+C*M) (fun y hy=>by
      unfold addZ at hy
      rw [zipWith_zip] at hy
      obtain ⟨⟨a,b⟩,hab,rfl⟩:=List.mem_map.mp hy
      have h1:=h a (List.of_mem_zip hab).1
      have h2:=hp p List.mem_cons_self
      have h3:=h2.2 b (List.of_mem_zip hab).2
      have h4:(p.1*b).natAbs≤C*M:=by rw [Int.natAbs_mul];exact Nat.mul_le_mul h2.1 h3
      dsimp only
      omega) (fun q hq=>hp q (List.mem_cons_of_mem _ hq)) x hx
    rw [List.length_cons,Nat.add_mul]
    omega
theorem sumZ_bd {C M:Nat} (cs:List Int) (rows:List (List Int)) (w:Nat) (hc:∀ c∈cs,c.natAbs≤C) (hr:∀ r∈rows,∀ x∈r,x.natAbs≤M):∀ x∈sumZ cs rows w,x.natAbs≤rows.length*(C*M):=fun x hx=>by
  have:=foldl_addZ_bd (C:=C) (M:=M) (cs.zip rows) (List.replicate w 0) 0 (fun y hy=>by rw [List.eq_of_mem_replicate hy];decide) (fun p hp=>⟨hc p.1 (List.of_mem_zip hp).1,hr p.2 (List.of_mem_zip hp).2⟩) x hx
  have h2:(cs.zip rows).length≤rows.length:=by rw [List.length_zip];omega
  have h3:=Nat.mul_le_mul_right (C*M) h2
  omega
theorem F_lot (ns:List Int) (k w m:Nat) (hw:w≤1000) (hm:m≤4):∃ rows:List (List Int),F__law_lot [.fro (ns.map D.int),.int k,.int w,.int m]=some (.tup (rows.map rowD))∧rows.length≤m∧(∀ r∈rows,r.length=w)∧∀ r∈rows,∀ x∈r,x.natAbs≤6*8 ^ rows.length:=by
  obtain ⟨h1,h2⟩:=mixZ_b (cellZ ns k) 9949 ((m:Int)+1) (by omega)
  obtain ⟨n,hn⟩:∃ n:Nat,mixZ (cellZ ns k) 9949 ((m:Int)+1)=n:=⟨_,(Int.toNat_of_nonneg h1).symm⟩
  have hf:fit (n:Int).natAbs=true:=fit_of (by omega)
  have hmx:=F_mix (cellZ ns k) 9949 ((m:Int)+1) (by decide) (by omega)
  rw [hn] at hmx
  have loop:=forD_range (n:=n) (h:=bind1 5) (gb:=seqF (setF 6 (bind2 (callF (consD (vF 0) (consD (bind2 (vF 1) (vF 5) addD) nilF)) F__law_cell) (bind2 (cF (.int 101)) (vF 5) mulD) addD)) (ifF (andT (bT (bind2 (vF 5) (cF (.int 0)) gtD)) (bT (bind2 (callF (consD (vF 6) (consD (cF (.int 9941)) (consD (cF (.int 4)) nilF))) F__law_mix) (cF (.int 0)) eqD))) (appF 4 (callF (consD (lstF (compF (fsF (consD (vF 5) nilF) range1D) (bind1 0) yesT (bind2 (callF (consD (bind2 (vF 1) (bind2 (cF (.int 3)) (vF 0) mulD) addD) (consD (cF (.int 9931)) (consD (cF (.int 5)) nilF))) F__law_mix) (cF (.int 2)) subD) [none,some 6])) (consD (vF 4) (consD (vF 2) nilF))) F__law_sum)) (appF 4 (callF (consD (vF 6) (consD (vF 2) nilF)) F__law_row))))
    (fun j δ=>∃ (rows:List (List Int)) (x5 x6:Option D),rows.length=j∧(∀ r∈rows,r.length=w)∧(∀ r∈rows,∀ x∈r,x.natAbs≤6*8 ^ j)∧(match x5 with | some d=>noL d=true | none=>True)∧(match x6 with | some d=>noL d=true | none=>True)∧δ=[some (.fro (ns.map D.int)),some (.int k),some (.int w),some (.int m),some (.lst (rows.map rowD)),x5,x6]) (by
      rintro j hj δ ⟨rows,x5,x6,hl,hr,hbd,h5,h6,rfl⟩
      have p8:8 ^ (j+1)=8*8 ^ j:=by rw [Nat.pow_succ];omega
      have p1:1≤8 ^ j:=Nat.one_le_pow _ _ (by decide)
      have hc:=F_cell ns (k+j)
      rw [Int.natCast_add] at hc
      have ho:okMul 101 (j:Int)=true:=okMul_l (by decide) (by decide)
      have app:∀ (c:Int) (r:List Int) (fe:DS→Option D),fe [some (.fro (ns.map D.int)),some (.int k),some (.int w),some (.int m),some (.lst (rows.map rowD)),some (.int j),some (.int c)]=some (rowD r)→r.length=w →
          appF 4 fe [some (.fro (ns.map D.int)),some (.int k),some (.int w),some (.int m),some (.lst (rows.map rowD)),some (.int j),some (.int c)]=some (.nx [some (.fro (ns.map D.int)),some (.int k),some (.int w),some (.int m),some (.lst ((rows++[r]).map rowD)),some (.int j),some (.int c)]):=by
        intro c r fe hfe _
        unfold appF
        rw [hfe]
        simp only [Option.bind_some,List.getElem?_cons_zero,List.getElem?_cons_succ,Option.join_some]
        rw [if_pos ⟨fit_of (by rw [List.length_map];omega),noLs_rows rows,noL_row r,by simp [others,othersFrom,noL,noLs_ints]⟩]
        simp only [List.set_cons_zero,List.set_cons_succ,List.map_append,List.map_cons,List.map_nil]
      refine ⟨[some (.fro (ns.map D.int)),some (.int k),some (.int w),some (.int m),some (.lst (rows.map rowD)),some (.int j),x6],?_⟩
      have e1:setF 6 (bind2 (callF (consD (vF 0) (consD (bind2 (vF 1) (vF 5) addD) nilF)) F__law_cell) (bind2 (cF (.int 101)) (vF 5) mulD) addD) [some (.fro (ns.map D.int)),some (.int k),some (.int w),some (.int m),some (.lst (rows.map rowD)),some (.int j),x6]=some (.nx [some (.fro (ns.map D.int)),some (.int k),some (.int w),some (.int m),some (.lst (rows.map rowD)),some (.int j),some (.int (cellZ ns (k+j)+101*j))]):=by
        simp only [vF,cF,unF,nilF,callF,lstF,dispF,tupF,fsF,compF,oN,oS,bT,yesT,truT,andT,orT,notT,itF,nxF,retF,setF,setL,ifF,forF,seqF,consD,bind2,andD,orD,notD,asB,asI,runD,bind1,bindP,List.length_cons,List.length_nil,List.map_cons,List.map_nil,List.getElem?_cons_zero,List.getElem?_cons_succ,List.set_cons_zero,List.set_cons_succ,Option.join_some,Option.bind_some,Option.map_some,Option.join_none,Option.bind_none,Option.map_none,innD,List.cons_append,List.nil_append,List.replicate,Nat.sub_self,Nat.reduceAdd,Nat.reduceSub,if_true,if_false,addD,mulD,ho,hc]
      generalize cellZ ns (k+j)+101*(j:Int)=c at e1
      have e2:bT (bind2 (callF (consD (vF 6) (consD (cF (.int 9941)) (consD (cF (.int 4)) nilF))) F__law_mix) (cF (.int 0)) eqD) [some (.fro (ns.map D.int)),some (.int k),some (.int w),some (.int m),some (.lst (rows.map rowD)),some (.int j),some (.int c)]=some (mixZ c 9941 4==0):=by
        simp only [vF,cF,unF,nilF,callF,lstF,dispF,tupF,fsF,compF,oN,oS,bT,yesT,truT,andT,orT,notT,itF,nxF,retF,setF,setL,ifF,forF,seqF,consD,bind2,andD,orD,notD,asB,asI,runD,bind1,bindP,List.length_cons,List.length_nil,List.map_cons,List.map_nil,List.getElem?_cons_zero,List.getElem?_cons_succ,List.set_cons_zero,List.set_cons_succ,Option.join_some,Option.bind_some,Option.map_some,Option.join_none,Option.bind_none,Option.map_none,innD,List.cons_append,List.nil_append,List.replicate,Nat.sub_self,Nat.reduceAdd,Nat.reduceSub,if_true,if_false,F_mix _ _ _ (show (9941:Int)≠0 by decide) (show (4:Int)≠0 by decide),eqD,ceq_int]
      have e3:bT (bind2 (vF 5) (cF (.int 0)) gtD) [some (.fro (ns.map D.int)),some (.int k),some (.int w),some (.int m),some (.lst (rows.map rowD)),some (.int j),some (.int c)]=some (decide (0<(j:Int))):=by
        simp only [vF,cF,unF,nilF,callF,lstF,dispF,tupF,fsF,compF,oN,oS,bT,yesT,truT,andT,orT,notT,itF,nxF,retF,setF,setL,ifF,forF,seqF,consD,bind2,andD,orD,notD,asB,asI,runD,bind1,bindP,List.length_cons,List.length_nil,List.map_cons,List.map_nil,List.getElem?_cons_zero,List.getElem?_cons_succ,List.set_cons_zero,List.set_cons_succ,Option.join_some,Option.bind_some,Option.map_some,Option.join_none,Option.bind_none,Option.map_none,innD,List.cons_append,List.nil_append,List.replicate,Nat.sub_self,Nat.reduceAdd,Nat.reduceSub,if_true,if_false,gtD]
      have rowCase:∃ r:List Int,r.length=w∧(∀ x∈r,x.natAbs≤6*8 ^ (j+1))∧callF (consD (vF 6) (consD (vF 2) nilF)) F__law_row [some (.fro (ns.map D.int)),some (.int k),some (.int w),some (.int m),some (.lst (rows.map rowD)),some (.int j),some (.int c)]=some (rowD r) :=
        ⟨rowZ c w,rowZ_len c w,fun x hx=>Nat.le_trans (rowZ_bd c w x hx) (by omega),by simp only [vF,cF,unF,nilF,callF,lstF,dispF,tupF,fsF,compF,oN,oS,bT,yesT,truT,andT,orT,notT,itF,nxF,retF,setF,setL,ifF,forF,seqF,consD,bind2,andD,orD,notD,asB,asI,runD,bind1,bindP,List.length_cons,List.length_nil,List.map_cons,List.map_nil,List.getElem?_cons_zero,List.getElem?_cons_succ,List.set_cons_zero,List.set_cons_succ,Option.join_some,Option.bind_some,Option.map_some,Option.join_none,Option.bind_none,Option.map_none,innD,List.cons_append,List.nil_append,List.replicate,Nat.sub_self,Nat.reduceAdd,Nat.reduceSub,if_true,if_false,F_row c w hw]⟩
      have hfj:fit (j:Int).natAbs=true:=fit_of (by omega)
      have sumCase:∃ r:List Int,r.length=w∧(∀ x∈r,x.natAbs≤6*8 ^ (j+1))∧callF (consD (lstF (compF (fsF (consD (vF 5) nilF) range1D) (bind1 0) yesT (bind2 (callF (consD (bind2 (vF 1) (bind2 (cF (.int 3)) (vF 0) mulD) addD) (consD (cF (.int 9931)) (consD (cF (.int 5)) nilF))) F__law_mix) (cF (.int 2)) subD) [none,some 6])) (consD (vF 4) (consD (vF 2) nilF))) F__law_sum [some (.fro (ns.map D.int)),some (.int k),some (.int w),some (.int m),some (.lst (rows.map rowD)),some (.int j),some (.int c)]=some (rowD r):=by
        refine ⟨sumZ ((List.range j).map fun (i:Nat)=>mixZ (c+3*(i:Int)) 9931 5-2) rows w,sumZ_len _ _ _ hr,fun x hx=>?_,?_⟩
        · have h9:=sumZ_bd (C:=2) (M:=6*8 ^ j) _ rows w (fun c' hc'=>by
            obtain ⟨i,_,rfl⟩:=List.mem_map.mp hc'
            have:=mixZ_b (c+3*(i:Int)) 9931 5 (by decide)
            omega) hbd x hx
          have h10:rows.length≤3:=by omega
          have h11:rows.length*(2*(6*8 ^ j))≤3*(2*(6*8 ^ j)):=Nat.mul_le_mul_right _ h10
          omega
        have h2:compD (bind1 0) yesT (bind2 (callF (consD (bind2 (vF 1) (bind2 (cF (.int 3)) (vF 0) mulD) addD) (consD (cF (.int 9931)) (consD (cF (.int 5)) nilF))) F__law_mix) (cF (.int 2)) subD) [none,some (.int c)] ((List.range j).map fun (i:Nat)=>D.int (i:Int))=some ((List.range j).map fun (i:Nat)=>D.int (mixZ (c+3*(i:Int)) 9931 5-2)) :=
          compD_map (fun δ=>∃ a,δ=[a,some (.int c)]) _ _ _ _ ⟨none,rfl⟩ (by
            rintro i _ δ ⟨a,rfl⟩
            have ho:okMul 3 (i:Int)=true:=okMul_l (by decide) (by decide)
            refine ⟨[some (.int i),some (.int c)],rfl,⟨_,rfl⟩,rfl,?_⟩
            simp only [vF,cF,unF,nilF,callF,lstF,dispF,tupF,fsF,compF,oN,oS,bT,yesT,truT,andT,orT,notT,itF,nxF,retF,setF,setL,ifF,forF,seqF,consD,bind2,andD,orD,notD,asB,asI,runD,bind1,bindP,List.length_cons,List.length_nil,List.map_cons,List.map_nil,List.getElem?_cons_zero,List.getElem?_cons_succ,List.set_cons_zero,List.set_cons_succ,Option.join_some,Option.bind_some,Option.map_some,Option.join_none,Option.bind_none,Option.map_none,innD,List.cons_append,List.nil_append,List.replicate,Nat.sub_self,Nat.reduceAdd,Nat.reduceSub,if_true,if_false,mulD,addD,subD,ho,F_mix _ _ _ (show (9931:Int)≠0 by decide) (show (5:Int)≠0 by decide)])
        have h3:=F_sum (.lst ((List.range j).map fun (i:Nat)=>D.int (mixZ (c+3*(i:Int)) 9931 5-2))) (.lst (rows.map rowD)) ((List.range j).map fun (i:Nat)=>mixZ (c+3*(i:Int)) 9931 5-2) rows w hw (by simp only [itemsD,List.map_map];rfl) rfl (by
          intro x hx
          obtain ⟨i,_,rfl⟩:=List.mem_map.mp hx
          have:=mixZ_b (c+3*(i:Int)) 9931 5 (by decide)
          unfold small
          omega)
        simp only [callF,consD,lstF,compF,fsF,vF,nilF,List.getElem?_cons_zero,List.getElem?_cons_succ,Option.join_some,Option.bind_some,Option.map_some,range1D,hfj,if_true,Int.toNat_natCast,rangeD_map,innD,List.map_cons,List.map_nil,Option.bind_none,h2,h3]
      obtain ⟨r1,l1,b1,q1⟩:=rowCase
      obtain ⟨r2,l2,b2,q2⟩:=sumCase
      have a1:=app c r1 _ q1 l1
      have a2:=app c r2 _ q2 l2
      by_cases hcond:(decide (0<(j:Int))=true∧(mixZ c 9941 4==0)=true)
      · refine ⟨_,rfl,?_,⟨rows++[r2],some (.int j),some (.int c),by simp [hl],fun r hr'=>?_,fun r hr' x hx=>?_,rfl,rfl,rfl⟩⟩
        · unfold seqF
          rw [e1,Option.bind_some]
          show ifF _ _ _ _=_
          unfold ifF andT
          rw [e3,e2,Option.bind_some,if_pos hcond.1,Option.bind_some,if_pos hcond.2,a2]
        · rcases List.mem_append.mp hr' with z | z
          · exact hr r z
          · rw [List.mem_singleton.mp z];exact l2
        · rcases List.mem_append.mp hr' with z | z
          · exact Nat.le_trans (hbd r z x hx) (by omega)
          · rw [List.mem_singleton.mp z] at hx;exact b2 x hx
      · refine ⟨_,rfl,?_,⟨rows++[r1],some (.int j),some (.int c),by simp [hl],fun r hr'=>?_,fun r hr' x hx=>?_,rfl,rfl,rfl⟩⟩
        · unfold seqF
          rw [e1,Option.bind_some]
          show ifF _ _ _ _=_
          unfold ifF andT
          rw [e3,e2,Option.bind_some]
          by_cases hc1:decide (0<(j:Int))=true
          · rw [if_pos hc1,Option.bind_some,if_neg (fun z=>hcond ⟨hc1,z⟩),a1]
          · rw [if_neg hc1,Option.bind_some,if_neg (by decide),a1]
        · rcases List.mem_append.mp hr' with z | z
          · exact hr r z
          · rw [List.mem_singleton.mp z];exact l1
        · rcases List.mem_append.mp hr' with z | z
          · exact Nat.le_trans (hbd r z x hx) (by omega)
          · rw [List.mem_singleton.mp z] at hx;exact b1 x hx)
    n 0 [some (.fro (ns.map D.int)),some (.int k),some (.int w),some (.int m),some (.lst []),none,none] (by omega) ⟨[],none,none,rfl,fun r hr=>(nomatch hr),fun r hr=>(nomatch hr),trivial,trivial,rfl⟩
  obtain ⟨δ',e,rows,x5,x6,hl,hr,hbd,_,_,rfl⟩:=loop
  refine ⟨rows,?_,by omega,hr,by rw [hl];exact hbd⟩
  rw [← List.range_eq_range'] at e
  refine runD_rt rfl ?_
  refine (seqF_nx (δ':=[some (.fro (ns.map D.int)),some (.int k),some (.int w),some (.int m),some (.lst []),none,none]) rfl).trans ?_
  refine (seqF_nx (forF_nx ?_ e)).trans (retF_rt ?_)
  · simp only [fsF,consD,callF,vF,cF,nilF,bind2,List.getElem?_cons_zero,List.getElem?_cons_succ,Option.join_some,Option.bind_some,Option.map_some,F_cell,addD,hmx,range1D,hf,if_true,Int.toNat_natCast,rangeD_map]
  · simp only [vF,cF,unF,nilF,callF,lstF,dispF,tupF,fsF,compF,oN,oS,bT,yesT,truT,andT,orT,notT,itF,nxF,retF,setF,setL,ifF,forF,seqF,consD,bind2,andD,orD,notD,asB,asI,runD,bind1,bindP,List.length_cons,List.length_nil,List.map_cons,List.map_nil,List.getElem?_cons_zero,List.getElem?_cons_succ,List.set_cons_zero,List.set_cons_succ,Option.join_some,Option.bind_some,Option.map_some,Option.join_none,Option.bind_none,Option.map_none,innD,List.cons_append,List.nil_append,List.replicate,Nat.sub_self,Nat.reduceAdd,Nat.reduceSub,if_true,if_false,tupleD,itemsD]
theorem boolsD_map' {α:Type} (f:α→Bool):∀ xs:List α,boolsD (xs.map fun x=>D.bl (f x))=some (xs.map f)
  | []=>rfl
  | x::xs=>by simp [boolsD,boolsD_map' f xs]
theorem allD_map {α:Type} (f:α→Bool) (xs:List α):allD [.lst (xs.map fun x=>D.bl (f x))]=some (.bl (xs.all f)):=by
  simp only [allD,boolsD_map',itemsD,Option.map_some,Option.bind_some,List.all_map]
  rfl
theorem ixN_nat {n i:Nat} (h:i<n):ixN n (i:Int)=some i:=by
  unfold ixN
  split
  · split
    · simp
    · omega
  · omega
theorem skip_if {t:DS→Option Bool} {A rest:DS→Option DF} {δ:DS} (h:t δ=some false):seqF (ifF t A nxF) rest δ=rest δ:=(seqF_nx (δ':=δ) ((ifF_f h).trans rfl))
theorem lead_while (r:List Int):∀ (d k n:Nat),La.leadZ r=k+d→d<n→whileD (andT (bT (bind2 (vF 1) (callF (consD (vF 0) nilF) lenD) ltD)) (bT (bind2 (bind2 (vF 0) (vF 1) ixD) (cF (.int 0)) eqD))) (setF 1 (bind2 (vF 1) (cF (.int 1)) addD)) n [some (rowD r),some (.int (k:Int))]=some (.nx [some (rowD r),some (.int (La.leadZ r:Int))])
  | d,k,0,_,h=>by omega
  | d,k,n+1,e,h=>by
    have le:=La.leadZ_le r
    have t1:bT (bind2 (vF 1) (callF (consD (vF 0) nilF) lenD) ltD) [some (rowD r),some (.int (k:Int))]=some (decide (k<r.length)):=by
      refine bT_eq ((bind2_eq (x:=.int (k:Int)) (y:=.int (r.length:Int)) rfl ?_).trans ?_)
      · simp only [vF,cF,unF,nilF,callF,lstF,dispF,tupF,fsF,compF,oN,oS,bT,yesT,truT,andT,orT,notT,itF,nxF,retF,setF,setL,ifF,forF,seqF,consD,bind2,andD,orD,notD,asB,asI,runD,bind1,bindP,List.length_cons,List.length_nil,List.map_cons,List.map_nil,List.getElem?_cons_zero,List.getElem?_cons_succ,List.set_cons_zero,List.set_cons_succ,Option.join_some,Option.bind_some,Option.map_some,Option.join_none,Option.bind_none,Option.map_none,innD,List.cons_append,List.nil_append,List.replicate,Nat.sub_self,Nat.reduceAdd,Nat.reduceSub,if_true,if_false,lenD,itemsD,rowD,List.length_map]
      · show some (D.bl (decide ((k:Int)<(r.length:Int))))=_
        congr 2
        exact decide_eq_decide.mpr (by omega)
    unfold whileD
    cases d with
    | zero =>
      have tc:andT (bT (bind2 (vF 1) (callF (consD (vF 0) nilF) lenD) ltD)) (bT (bind2 (bind2 (vF 0) (vF 1) ixD) (cF (.int 0)) eqD)) [some (rowD r),some (.int (k:Int))]=some false:=by
        by_cases z:k<r.length
        · refine andT_t (t1.trans (by rw [decide_eq_true z])) (bT_eq ((bind2_eq ((bind2_eq rfl rfl).trans (ixD_row z)) rfl).trans ?_))
          show some (D.bl (La.at' r k==0))=_
          have:=La.leadZ_ne r (by omega)
          rw [e,Nat.add_zero] at this
          simp [this]
        · unfold andT
          rw [t1,decide_eq_false z];rfl
      rw [tc,e]
      rfl
    | succ d =>
      have z:k<r.length:=by omega
      have tc:andT (bT (bind2 (vF 1) (callF (consD (vF 0) nilF) lenD) ltD)) (bT (bind2 (bind2 (vF 0) (vF 1) ixD) (cF (.int 0)) eqD)) [some (rowD r),some (.int (k:Int))]=some true:=by
        refine andT_t (t1.trans (by rw [decide_eq_true z])) (bT_eq ((bind2_eq ((bind2_eq rfl rfl).trans (ixD_row z)) rfl).trans ?_))
        show some (D.bl (La.at' r k==0))=_
        rw [La.leadZ_zero r k (by omega)];rfl
      have st:setF 1 (bind2 (vF 1) (cF (.int 1)) addD) [some (rowD r),some (.int (k:Int))]=some (.nx [some (rowD r),some (.int ((k+1:Nat):Int))]):=(setF_nx ((bind2_eq rfl rfl).trans rfl)).trans rfl
      rw [tc]
      simp only [Option.bind_some,if_true,st]
      exact lead_while r d (k+1) n (by omega) (by omega)
theorem F_lead (r:List Int):F_lead_place [rowD r]=some (.int (La.leadZ r:Int)):=by
  refine runD_rt rfl ?_
  refine (seqF_nx (δ':=[some (rowD r),some (.int ((0:Nat):Int))]) rfl).trans ?_
  exact (seqF_nx (whF_eq (lead_while r (La.leadZ r) 0 (La.leadZ r+1) (by omega) (by omega)))).trans (retF_rt rfl)
def cutG {α:Type} (xs:List α) (lo hi:Option Int):List α:=(xs.drop (HT.sIx xs.length 0 lo)).take (HT.sIx xs.length xs.length hi-HT.sIx xs.length 0 lo)
theorem cutD_map {α:Type} (f:α→D) (xs:List α) (lo hi:Option Int):cutD (xs.map f) lo hi=(cutG xs lo hi).map f:=by
  unfold cutD cutG
  rw [List.length_map,← List.map_drop,← List.map_take]
theorem compF_eq {fi:DS→Option (List D)} {h:D→DS→Option DS} {fc:DS→Option Bool} {fe:DS→Option D} {inn:List (Option Nat)} {δ:DS} {ds xs:List D} (h1:fi δ=some ds) (h2:compD h fc fe (innD inn δ) ds=some xs):compF fi h fc fe inn δ=some xs:=by
  unfold compF
  rw [h1];exact h2
theorem len_lot (L:List (List Int)):lenD [lotD L]=some (.int (L.length:Int)):=by
  simp only [lenD,itemsD,lotD,List.length_map,Option.map_some]
theorem slD_dropR (r:List Int) (k:Nat):slD (rowD r) (some (k:Int)) none=some (rowD (r.drop k)):=by
  show some (D.tup (cutD (r.map D.int) (some (k:Int)) none))=_
  unfold cutD
  rw [HT.sIx_nat,HT.sIx_none,List.length_map,← List.map_drop,List.take_of_length_le (by simp)]
  congr 3
  rcases Nat.lt_or_ge k r.length with z | z
  · rw [Nat.min_eq_left (by omega)]
  · rw [Nat.min_eq_right z,List.drop_eq_nil_of_le z,List.drop_eq_nil_of_le (Nat.le_refl _)]
theorem ss_mono (b:Nat):∀ {n m:Nat},n≤m→La.ss b n≤La.ss b m∧La.bb b n≤La.bb b m:=fun {n m} h=>by
  induction h with
  | refl=>exact ⟨Nat.le_refl _,Nat.le_refl _⟩
  | step _ ih=>exact ⟨Nat.le_trans ih.1 (by show _≤La.ss b _+_+1;omega),Nat.le_trans ih.2 (La.bb_le b _)⟩
theorem fv_inj {r s:List Int} {w:Nat} (hr:r.length=w) (hs:s.length=w) (e:La.fv r=La.fv s):r=s:=by
  have:=La.map_fv_inj (w:=w) (P:=[r]) (Q:=[s]) (fun q hq=>by rw [List.mem_singleton.mp hq];exact hr) (fun q hq=>by rw [List.mem_singleton.mp hq];exact hs) (by simp [e])
  simpa using this
theorem range_it {n:Nat} (hn:n≤1000):range1D [.int (n:Int)]=some ((List.range n).map fun (i:Nat)=>D.int (i:Int)):=by
  show (if _ then _ else _)=_
  rw [if_pos (fit_of (by omega)),Int.toNat_natCast]
  congr 1
  exact rangeD_map n
theorem F_column_eq {L:List (List Int)} {w i:Nat} (hl:∀ r∈L,r.length=w) (hi:i<w):F_column [lotD L,.int (i:Int)]=some (rowD (La.colZ L i)):=by
  refine runD_rt rfl (retF_rt ((callF_eq (consD_eq (lstF_eq (ds:=L.map fun r=>D.int (La.at' r i)) ?_) rfl)).trans ?_))
  · refine compD_map (fun δ=>∃ a,δ=[a,some (.int (i:Int))]) rowD _ _ _ ⟨none,rfl⟩ ?_
    rintro r hr δ ⟨a,rfl⟩
    exact ⟨[some (rowD r),some (.int (i:Int))],rfl,⟨_,rfl⟩,rfl,(bind2_eq rfl rfl).trans (ixD_row (by rw [hl r hr];exact hi))⟩
  · show some (D.tup _)=_
    unfold rowD La.colZ
    rw [List.map_map];rfl
theorem F_upright_eq {L:List (List Int)} {w:Nat} (hl:∀ r∈L,r.length=w) (hw:w≤1000):F_upright [lotD L,.int (w:Int)]=some (lotD (La.uprZ w L)):=by
  refine runD_rt rfl (retF_rt ((callF_eq (consD_eq (lstF_eq (ds:=(List.range w).map fun i=>rowD (La.colZ L i)) ?_) rfl)).trans ?_))
  · have it:fsF (consD (vF 1) nilF) range1D [some (lotD L),some (.int (w:Int))]=some ((List.range w).map fun (i:Nat)=>D.int (i:Int)):=range_it hw
    refine compF_eq it ?_
    refine compD_map (fun δ=>∃ a,δ=[a,some (lotD L)]) (fun (i:Nat)=>D.int (i:Int)) _ _ _ ⟨none,rfl⟩ ?_
    rintro i hi δ ⟨a,rfl⟩
    exact ⟨[some (.int (i:Int)),some (lotD L)],rfl,⟨_,rfl⟩,rfl,(callF_eq (consD_eq rfl (consD_eq rfl rfl))).trans (F_column_eq hl (List.mem_range.mp hi))⟩
  · show some (D.tup _)=_
    unfold lotD La.uprZ
    rw [List.map_map];rfl
theorem gcd_while {x0 x1:Option D}:∀ (n a b:Nat) (x4:Option D),b<n→∃ x4',whileD (bT (bind2 (vF 3) (cF (.int 0)) neD)) (seqF (setF 4 (bind2 (vF 2) (vF 3) modD)) (seqF (setF 2 (vF 3)) (setF 3 (vF 4)))) n [x0,x1,some (.int (a:Int)),some (.int (b:Int)),x4]=some (.nx [x0,x1,some (.int (Nat.gcd a b:Int)),some (.int 0),x4'])
  | 0,_,_,_,h=>by omega
  | n+1,a,b,x4,h=>by
    unfold whileD
    have t:bT (bind2 (vF 3) (cF (.int 0)) neD) [x0,x1,some (.int (a:Int)),some (.int (b:Int)),x4]=some (!((b:Int)==0)):=bT_eq ((bind2_eq rfl rfl).trans (ne0 _))
    rw [t,Option.bind_some]
    by_cases hb:b=0
    · subst hb
      exact ⟨x4,by simp⟩
    · have hm:(a:Int).fmod (b:Int)=((a % b:Nat):Int):=by
        rw [Int.fmod_eq_emod_of_nonneg _ (by omega)];rfl
      obtain ⟨x4',e⟩:=gcd_while (x0:=x0) (x1:=x1) n b (a % b) (some (.int ((a % b:Nat):Int))) (by have:=Nat.mod_lt a (show 0<b by omega);omega)
      refine ⟨x4',?_⟩
      have st:(seqF (setF 4 (bind2 (vF 2) (vF 3) modD)) (seqF (setF 2 (vF 3)) (setF 3 (vF 4)))) [x0,x1,some (.int (a:Int)),some (.int (b:Int)),x4]=some (.nx [x0,x1,some (.int (b:Int)),some (.int ((a % b:Nat):Int)),some (.int ((a % b:Nat):Int))]):=by
        refine (seqF_nx (δ':=[x0,x1,some (.int (a:Int)),some (.int (b:Int)),some (.int ((a % b:Nat):Int))]) ((setF_nx ((bind2_eq rfl rfl).trans ((modD_int (by omega)).trans (by rw [hm])))).trans rfl)).trans ?_
        exact (seqF_nx (δ':=[x0,x1,some (.int (b:Int)),some (.int (b:Int)),some (.int ((a % b:Nat):Int))]) rfl).trans rfl
      rw [if_pos (by simp;omega),st,Option.bind_some]
      have eg:Nat.gcd b (a % b)=Nat.gcd a b:=by rw [Nat.gcd_comm a b,Nat.gcd_rec b a,Nat.gcd_comm]
      rw [eg] at e
      exact e
theorem F_gcd_eq (a b:Int):F_common_divisor [.int a,.int b]=some (.int (La.gcdZ a b)):=by
  obtain ⟨x4',e⟩:=gcd_while (x0:=some (.int a)) (x1:=some (.int b)) (b.natAbs+1) a.natAbs b.natAbs none (by omega)
  refine runD_rt rfl ?_
  refine (seqF_nx (δ':=[some (.int a),some (.int b),some (.int (a.natAbs:Int)),none,none]) ((setF_nx (d:=.int (a.natAbs:Int)) ?_).trans rfl)).trans ?_
  · refine (callF_eq (consD_eq rfl rfl)).trans ?_
    show some (D.int (if a<0 then -a else a))=_
    rw [abs_nat]
  refine (seqF_nx (δ':=[some (.int a),some (.int b),some (.int (a.natAbs:Int)),some (.int (b.natAbs:Int)),none]) ((setF_nx (d:=.int (b.natAbs:Int)) ?_).trans rfl)).trans ?_
  · refine (callF_eq (consD_eq rfl rfl)).trans ?_
    show some (D.int (if b<0 then -b else b))=_
    rw [abs_nat]
  exact (seqF_nx (whF_eq e)).trans (retF_rt rfl)
def leadsZ (P:List (List Int)):List Int:=P.map fun r=>La.at' r (La.leadZ r)
theorem F_leads_eq {P:List (List Int)} (h:∀ r∈P,La.leadZ r<r.length):F_leads [lotD P]=some (.lst ((leadsZ P).map D.int)):=by
  refine runD_rt rfl (retF_rt (lstF_eq ?_))
  unfold leadsZ
  rw [List.map_map]
  refine compD_map (fun δ=>∃ a,δ=[a]) rowD _ _ _ ⟨none,rfl⟩ ?_
  rintro r hr δ ⟨a,rfl⟩
  exact ⟨[some (rowD r)],rfl,⟨_,rfl⟩,rfl,(bind2_eq rfl ((callF_eq (consD_eq rfl rfl)).trans (F_lead r))).trans (ixD_row (h r hr))⟩
theorem leads_in {w:Nat} {X P:List (List Int)} (hP:La.IsPl w X P):∀ r∈P,La.leadZ r<r.length∧0<La.at' r (La.leadZ r):=fun r hr=>by
  obtain ⟨ls,p,q⟩:=hP.pl
  have:=La.red_at p hP.len q (La.rem_red (La.fv r) p.ec) r hr
  rw [hP.len r hr]
  omega
theorem F_alone_eq (r:List Int):F_has_lead_alone [rowD r]=some (.bl (La.alZ r)):=by
  refine runD_rt rfl (retF_rt ((callF_eq (consD_eq (lstF_eq (ds:=(r.drop (La.leadZ r+1)).map fun x=>D.bl (x==0)) ?_) rfl)).trans (allD_map _ _)))
  have it:itF (slF (vF 0) (oS (bind2 (callF (consD (vF 0) nilF) F_lead_place) (cF (.int 1)) addD)) oN) [some (rowD r)]=some ((r.drop (La.leadZ r+1)).map D.int):=by
    have o1:oS (bind2 (callF (consD (vF 0) nilF) F_lead_place) (cF (.int 1)) addD) [some (rowD r)]=some (some ((La.leadZ r+1:Nat):Int)):=by
      have:bind2 (callF (consD (vF 0) nilF) F_lead_place) (cF (.int 1)) addD [some (rowD r)]=some (.int ((La.leadZ r+1:Nat):Int)):=(bind2_eq ((callF_eq (consD_eq rfl rfl)).trans (F_lead r)) rfl).trans rfl
      simp only [oS,this]
      rfl
    unfold itF slF
    rw [show vF 0 [some (rowD r)]=some (rowD r) from rfl,Option.bind_some,o1,Option.bind_some,show oN [some (rowD r)]=some none from rfl,Option.bind_some,slD_dropR]
    rfl
  refine compF_eq it ?_
  refine compD_map (fun δ=>∃ a,δ=[a]) D.int _ _ _ ⟨none,rfl⟩ ?_
  rintro x hx δ ⟨a,rfl⟩
  exact ⟨[some (.int x)],rfl,⟨_,rfl⟩,rfl,(bind2_eq rfl rfl).trans (eq0 x)⟩
def cst (L:List Int) (n:Nat) (x3 x4 x5:Option D):DS:=[none,some (.lst (L.map D.int)),some (.int (n:Int)),x3,x4,x5]
theorem ix_ints {L:List Int} {i:Nat} (hi:i<L.length):ixD (.lst (L.map D.int)) (.int (i:Int))=some (.int (La.at' L i)):=by
  show atI (L.map D.int) (i:Int)=_
  refine atI_nat ?_
  rw [List.getElem?_map,List.getElem?_eq_getElem hi]
  simp [La.at',List.getD,List.getElem?_eq_getElem hi]
theorem noLs_ints':∀ L:List Int,noLs (L.map D.int)=true
  | []=>rfl
  | a::L=>by simp [noLs,noL,noLs_ints' L]
theorem put_at {L:List Int} {n i:Nat} {x3 x4 x5:Option D} {fi:DS→Option D} (v:Int) (hi:i<L.length) (h3:∀ d,x3=some d→noL d=true) (h4:∀ d,x4=some d→noL d=true) (h5:∀ d,x5=some d→noL d=true) (hf:fi (cst L n x3 x4 x5)=some (.int (i:Int))):storeD 1 fi (.int v) (cst L n x3 x4 x5)=some (cst (L.set i v) n x3 x4 x5):=by
  unfold storeD
  rw [hf,Option.bind_some]
  have h1:ixN (L.map D.int).length (i:Int)=some i:=ixN_nat (by rw [List.length_map];exact hi)
  have ho:others 1 (cst L n x3 x4 x5)=true:=by
    have o:∀ (x:Option D),(∀ d,x=some d→noL d=true)→(match x with | some d=>noL d | none=>true)=true:=fun x h=>by
      cases x with
      | none=>rfl
      | some d=>exact h d rfl
    simp [others,othersFrom,cst,noL]
    exact ⟨o x3 h3,o x4 h4,o x5 h5⟩
  show (ixN (L.map D.int).length (i:Int)).bind _=_
  rw [h1,Option.bind_some]
  refine (if_pos ⟨noLs_ints' L,rfl,ho⟩).trans ?_
  simp only [cst,List.set_cons_zero,List.set_cons_succ,List.map_set]
theorem ch_in {L0:List Int} {n i S:Nat} (hS:S<59999999) (hp:∀ x∈L0,0<x) (hpr:(La.prod L0).natAbs≤2 ^ S) (hn:L0.length=n):∀ (m j:Nat) (L:List Int) (x4 x5:Option D),j+m=n→i<j→La.Ch L0 L→(∀ d,x4=some d→noL d=true)→(∀ d,x5=some d→noL d=true) →
    ∃ x4' x5',forD (bind1 4) (seqF (setF 5 (callF (consD (bind2 (vF 1) (vF 3) ixD) (consD (bind2 (vF 1) (vF 4) ixD) nilF)) F_common_divisor)) (seqF (putS 1 (vF 4) (bind2 (bind2 (bind2 (vF 1) (vF 3) ixD) (vF 5) fdivD) (bind2 (vF 1) (vF 4) ixD) mulD)) (putS 1 (vF 3) (vF 5)))) ((List.range' j m).map fun (k:Nat)=>D.int (k:Int)) (cst L n (some (.int (i:Int))) x4 x5)=some (.nx (cst (La.chIn i (List.range' j m) L) n (some (.int (i:Int))) x4' x5'))∧La.Ch L0 (La.chIn i (List.range' j m) L)∧(∀ d,x4' = some d→noL d=true)∧(∀ d,x5' = some d→noL d=true)
  | 0,j,L,x4,x5,_,_,hc,h4,h5=>⟨x4,x5,rfl,hc,h4,h5⟩
  | m+1,j,L,x4,x5,hj,hij,hc,h4,h5=>by
    have hl:L.length=n:=hc.len.trans hn
    have hi:i<L.length:=by omega
    have hjl:j<L.length:=by omega
    obtain ⟨g1,_,_,g4,g5⟩:=La.gcd_facts (hc.pos i hi) (hc.pos j hjl)
    have hst:=hc.step hij hjl
    obtain ⟨x4',x5',e,f⟩:=ch_in (i:=i) hS hp hpr hn m (j+1) (La.stepZ i j L) (some (.int (j:Int))) (some (.int (La.gcdZ (La.at' L i) (La.at' L j)))) (by omega) (by omega) hst (fun d h=>by cases h;rfl) (fun d h=>by cases h;rfl)
    rw [List.range'_succ]
    refine ⟨x4',x5',?_,f⟩
    rw [List.map_cons]
    unfold forD
    have bd:=hc.bd hp hpr
    have b1:bind1 4 (D.int (j:Int)) (cst L n (some (.int (i:Int))) x4 x5)=some (cst L n (some (.int (i:Int))) (some (.int (j:Int))) x5):=rfl
    have i1:∀ x5:Option D,bind2 (vF 1) (vF 3) ixD (cst L n (some (.int (i:Int))) (some (.int (j:Int))) x5)=some (.int (La.at' L i)):=fun x5=>(bind2_eq rfl rfl).trans (ix_ints hi)
    have i2:∀ x5:Option D,bind2 (vF 1) (vF 4) ixD (cst L n (some (.int (i:Int))) (some (.int (j:Int))) x5)=some (.int (La.at' L j)):=fun x5=>(bind2_eq rfl rfl).trans (ix_ints hjl)
    have s1:setF 5 (callF (consD (bind2 (vF 1) (vF 3) ixD) (consD (bind2 (vF 1) (vF 4) ixD) nilF)) F_common_divisor) (cst L n (some (.int (i:Int))) (some (.int (j:Int))) x5)=some (.nx (cst L n (some (.int (i:Int))) (some (.int (j:Int))) (some (.int (La.gcdZ (La.at' L i) (La.at' L j)))))) :=
      (setF_nx ((callF_eq (consD_eq (i1 x5) (consD_eq (i2 x5) rfl))).trans (F_gcd_eq _ _))).trans rfl
    have fb:((La.at' L i).fdiv (La.gcdZ (La.at' L i) (La.at' L j))).natAbs≤2 ^ S:=Nat.le_trans (La.fdiv_le g1) (bd i)
    have s2:putS 1 (vF 4) (bind2 (bind2 (bind2 (vF 1) (vF 3) ixD) (vF 5) fdivD) (bind2 (vF 1) (vF 4) ixD) mulD) (cst L n (some (.int (i:Int))) (some (.int (j:Int))) (some (.int (La.gcdZ (La.at' L i) (La.at' L j)))))=some (.nx (cst (L.set j ((La.at' L i).fdiv (La.gcdZ (La.at' L i) (La.at' L j))*La.at' L j)) n (some (.int (i:Int))) (some (.int (j:Int))) (some (.int (La.gcdZ (La.at' L i) (La.at' L j)))))):=by
      unfold putS
      rw [(bind2_eq ((bind2_eq (i1 _) rfl).trans (fdivD_int (by omega))) (i2 _)).trans (mulD_int (okMul_of (k:=S) fb (bd j) (by omega))),Option.bind_some,put_at _ hjl (fun d h=>by cases h;rfl) (fun d h=>by cases h;rfl) (fun d h=>by cases h;rfl) rfl]
      rfl
    have s3:putS 1 (vF 3) (vF 5) (cst (L.set j ((La.at' L i).fdiv (La.gcdZ (La.at' L i) (La.at' L j))*La.at' L j)) n (some (.int (i:Int))) (some (.int (j:Int))) (some (.int (La.gcdZ (La.at' L i) (La.at' L j)))))=some (.nx (cst (La.stepZ i j L) n (some (.int (i:Int))) (some (.int (j:Int))) (some (.int (La.gcdZ (La.at' L i) (La.at' L j)))))):=by
      unfold putS
      rw [show vF 5 (cst (L.set j ((La.at' L i).fdiv (La.gcdZ (La.at' L i) (La.at' L j))*La.at' L j)) n (some (.int (i:Int))) (some (.int (j:Int))) (some (.int (La.gcdZ (La.at' L i) (La.at' L j)))))=some (.int (La.gcdZ (La.at' L i) (La.at' L j))) from rfl,Option.bind_some,put_at _ (by rw [List.length_set];exact hi) (fun d h=>by cases h;rfl) (fun d h=>by cases h;rfl) (fun d h=>by cases h;rfl) rfl]
      rfl
    rw [b1,Option.bind_some,(seqF_nx s1).trans ((seqF_nx s2).trans s3),Option.bind_some]
    exact e
theorem range2_it {i n:Nat} (hn:n≤900) (hi:i≤n):range2D [.int (i:Int),.int (n:Int)]=some ((List.range' i (n-i)).map fun (k:Nat)=>D.int (k:Int)):=by
  show (if _∧_∧_ then _ else _)=_
  have e:((n:Int)-(i:Int)).toNat=n-i:=by omega
  rw [e,if_pos ⟨fit_of (by omega),fit_of (by omega),fit_of (by omega)⟩]
  congr 1
  have:∀ (m:Nat) (a:Nat),rangeD (a:Int) m=(List.range' a m).map fun (k:Nat)=>D.int (k:Int):=by
    intro m a
    unfold rangeD
    rw [List.range'_eq_map_range,List.map_map]
    refine List.map_congr_left fun k _=>?_
    simp
  exact this _ _
theorem ch_out {L0:List Int} {n S:Nat} (hn9:n≤900) (hS:S<59999999) (hp:∀ x∈L0,0<x) (hpr:(La.prod L0).natAbs≤2 ^ S) (hn:L0.length=n):∀ (m i:Nat) (L:List Int) (x3 x4 x5:Option D),i+m=n→La.Ch L0 L→(∀ d,x4=some d→noL d=true)→(∀ d,x5=some d→noL d=true) →
    ∃ x3' x4' x5',forD (bind1 3) (forF (fsF (consD (bind2 (vF 3) (cF (.int 1)) addD) (consD (vF 2) nilF)) range2D) (bind1 4) (seqF (setF 5 (callF (consD (bind2 (vF 1) (vF 3) ixD) (consD (bind2 (vF 1) (vF 4) ixD) nilF)) F_common_divisor)) (seqF (putS 1 (vF 4) (bind2 (bind2 (bind2 (vF 1) (vF 3) ixD) (vF 5) fdivD) (bind2 (vF 1) (vF 4) ixD) mulD)) (putS 1 (vF 3) (vF 5))))) ((List.range' i m).map fun (k:Nat)=>D.int (k:Int)) (cst L n x3 x4 x5)=some (.nx (cst (La.chOut n (List.range' i m) L) n x3' x4' x5'))
  | 0,i,L,x3,x4,x5,_,_,_,_=>⟨x3,x4,x5,rfl⟩
  | m+1,i,L,x3,x4,x5,hi,hc,h4,h5=>by
    obtain ⟨y4,y5,e,f1,f2,f3⟩:=ch_in (i:=i) hS hp hpr hn (n-i-1) (i+1) L x4 x5 (by omega) (by omega) hc h4 h5
    obtain ⟨x3',x4',x5',e'⟩:=ch_out hn9 hS hp hpr hn m (i+1) _ (some (.int (i:Int))) y4 y5 (by omega) f1 f2 f3
    refine ⟨x3',x4',x5',?_⟩
    rw [List.range'_succ,List.map_cons]
    unfold forD
    have b1:bind1 3 (D.int (i:Int)) (cst L n x3 x4 x5)=some (cst L n (some (.int (i:Int))) x4 x5):=rfl
    have it:fsF (consD (bind2 (vF 3) (cF (.int 1)) addD) (consD (vF 2) nilF)) range2D (cst L n (some (.int (i:Int))) x4 x5)=some ((List.range' (i+1) (n-i-1)).map fun (k:Nat)=>D.int (k:Int)):=by
      have:=range2_it (i:=i+1) (n:=n) hn9 (by omega)
      rw [show n-(i+1)=n-i-1 by omega] at this
      exact this
    rw [b1,Option.bind_some,forF_nx it e,Option.bind_some]
    exact e'
theorem F_chained_eq {L:List Int} {S:Nat} (hp:∀ x∈L,0<x) (hn:L.length≤900) (hS:S<59999999) (hpr:(La.prod L).natAbs≤2 ^ S):F_chained [.lst (L.map D.int)]=some (rowD (La.chainZ L)):=by
  have hpp:∀ i,i<L.length→0<La.at' L i:=fun i hi=>by
    have e:La.at' L i=L[i]:=by simp [La.at',List.getD,List.getElem?_eq_getElem hi]
    rw [e];exact hp _ (List.getElem_mem hi)
  obtain ⟨x3,x4,x5,e⟩:=ch_out (n:=L.length) hn hS hp hpr rfl L.length 0 L none none none (by omega) (.refl hpp) (fun d h=>nomatch h) (fun d h=>nomatch h)
  refine runD_rt rfl ?_
  refine (seqF_nx (δ':=[some (.lst (L.map D.int)),some (.lst (L.map D.int)),none,none,none,none]) ((setL_nx (ds:=L.map D.int) rfl).trans rfl)).trans ?_
  refine (seqF_nx (δ':=[some (.lst (L.map D.int)),some (.lst (L.map D.int)),some (.int (L.length:Int)),none,none,none]) ((setF_nx (d:=.int (L.length:Int)) ?_).trans rfl)).trans ?_
  · simp only [vF,cF,unF,nilF,callF,lstF,dispF,tupF,fsF,compF,oN,oS,bT,yesT,truT,andT,orT,notT,itF,nxF,retF,setF,setL,ifF,forF,seqF,consD,bind2,andD,orD,notD,asB,asI,runD,bind1,bindP,List.length_cons,List.length_nil,List.map_cons,List.map_nil,List.getElem?_cons_zero,List.getElem?_cons_succ,List.set_cons_zero,List.set_cons_succ,Option.join_some,Option.bind_some,Option.map_some,Option.join_none,Option.bind_none,Option.map_none,innD,List.cons_append,List.nil_append,List.replicate,Nat.sub_self,Nat.reduceAdd,Nat.reduceSub,if_true,if_false,lenD,itemsD,List.length_map]
  have it:fsF (consD (vF 2) nilF) range1D (cst L L.length none none none)=some ((List.range' 0 L.length).map fun (k:Nat)=>D.int (k:Int)):=by
    have:=range_it (n:=L.length) (by omega)
    rw [List.range_eq_range'] at this
    exact this
  refine (seqF_nx (δ':=cst (La.chainZ L) L.length x3 x4 x5) ?_).trans (retF_rt rfl)
  show forF _ _ _ (cst L L.length none none none)=_
  exact forF_nx it e
theorem alone_test {P:List (List Int)} {x0 x1 x3 x4:Option D}:notT (truT (callF (consD (lstF (compF (itF (vF 2)) (bind1 0) yesT (callF (consD (vF 0) nilF) F_has_lead_alone) [none])) nilF) allD)) [x0,x1,some (lotD P),x3,x4]=some (!(P.all La.alZ)):=by
  have c1:compD (bind1 0) yesT (callF (consD (vF 0) nilF) F_has_lead_alone) [none] (P.map rowD)=some (P.map fun r=>D.bl (La.alZ r)) :=
    compD_map (fun δ=>∃ a,δ=[a]) rowD _ _ _ ⟨none,rfl⟩ (by
      rintro r hr δ ⟨a,rfl⟩
      exact ⟨[some (rowD r)],rfl,⟨_,rfl⟩,rfl,(callF_eq (consD_eq rfl rfl)).trans (F_alone_eq r)⟩)
  have c2:callF (consD (lstF (compF (itF (vF 2)) (bind1 0) yesT (callF (consD (vF 0) nilF) F_has_lead_alone) [none])) nilF) allD [x0,x1,some (lotD P),x3,x4]=some (.bl (P.all La.alZ)) :=
    (callF_eq (consD_eq (lstF_eq (ds:=P.map fun r=>D.bl (La.alZ r)) c1) rfl)).trans (allD_map _ P)
  unfold notT truT
  rw [c2];rfl
theorem turn_step {P H:List (List Int)} {w:Nat} {x0 x1 x4:Option D} (hl:∀ r∈P,r.length=w) (hw:w≤1000) (hok:PlOk (La.uprZ w P) P.length) (hH:La.IsPl P.length (La.uprZ w P) H) :
    (seqF (setF 4 (callF (consD (vF 2) (consD (vF 3) nilF)) F_upright)) (seqF (setF 3 (callF (consD (vF 2) nilF) lenD)) (setF 2 (callF (consD (vF 4) (consD (vF 3) nilF)) F_plain)))) [x0,x1,some (lotD P),some (.int (w:Int)),x4]=some (.nx [x0,x1,some (lotD H),some (.int (P.length:Int)),some (lotD (La.uprZ w P))]):=by
  refine (seqF_nx (δ':=[x0,x1,some (lotD P),some (.int (w:Int)),some (lotD (La.uprZ w P))]) ((setF_nx ((callF_eq (consD_eq rfl (consD_eq rfl rfl))).trans (F_upright_eq hl hw))).trans rfl)).trans ?_
  refine (seqF_nx (δ':=[x0,x1,some (lotD P),some (.int (P.length:Int)),some (lotD (La.uprZ w P))]) ((setF_nx ((callF_eq (consD_eq rfl rfl)).trans (len_lot P))).trans rfl)).trans ?_
  exact (setF_nx ((callF_eq (consD_eq rfl (consD_eq rfl rfl))).trans (F_plain_eq hok hH))).trans rfl
theorem turns_loop {r s:Nat} {x0 x1:Option D} (hr:r≤4) (hs:La.ss s 4+La.bb s 4<59000000) {H F:List (List Int)} (hE:La.EndL r H F):(∀ {G:List (List Int)},La.EndL r G F→La.Bd s G)→∀ x4:Option D,
    ∃ n x4',whileD (notT (truT (callF (consD (lstF (compF (itF (vF 2)) (bind1 0) yesT (callF (consD (vF 0) nilF) F_has_lead_alone) [none])) nilF) allD))) (seqF (setF 4 (callF (consD (vF 2) (consD (vF 3) nilF)) F_upright)) (seqF (setF 3 (callF (consD (vF 2) nilF) lenD)) (setF 2 (callF (consD (vF 4) (consD (vF 3) nilF)) F_plain)))) n [x0,x1,some (lotD H),some (.int (r:Int)),x4]=some (.nx [x0,x1,some (lotD F),some (.int (r:Int)),x4']):=by
  induction hE with
  | @done X H hp hl ha =>
    intro _ x4
    refine ⟨1,x4,?_⟩
    unfold whileD
    rw [alone_test,ha];rfl
  | @turn X H H' F hp hl ha hp' hl' hE ih =>
    intro hb x4
    have bH:La.Bd s H:=hb (.turn hp hl ha hp' hl' hE)
    have hok:PlOk (La.uprZ r H) r:=⟨fun q hq=>(La.uprZ_lens q hq).trans hl,by rw [La.uprZ_len];omega,by omega,.inl ⟨s,La.uprZ_bd bH,by
      have:=ss_mono s (show min r (La.uprZ r H).length≤4 by rw [La.uprZ_len];omega)
      omega⟩⟩
    obtain ⟨n,x4',e⟩:=ih hb (some (lotD (La.uprZ r H)))
    refine ⟨n+1,x4',?_⟩
    unfold whileD
    rw [alone_test,ha,Option.bind_some,if_pos (show (!false)=true from rfl)]
    have st:=turn_step (P:=H) (H:=H') (w:=r) (x0:=x0) (x1:=x1) (x4:=x4) hp.len (by omega) (by rw [hl];exact hok) (by rw [hl];exact hp')
    rw [hl] at st
    rw [st,Option.bind_some]
    exact e
theorem qz_leads (P:List (List Int)):(P.map La.qz).map Prod.snd=leadsZ P:=by
  rw [List.map_map];rfl
theorem grades_spec {rows P:List (List Int)} {w b:Nat} (hl:∀ r∈rows,r.length=w) (hw:w≤60) (hr:P.length≤4) (hok:PlOk rows w) (hP:La.IsPl w rows P) (hb:La.Bd b rows) (hs:La.Bd 20000 P) (hb1:b≤2000) :
    ∃ gs:List Int,F_grades [lotD rows,.int (w:Int)]=some (rowD gs)∧La.Gr P.length (rows.map La.fv) gs:=by
  have fin:∀ {G X:List (List Int)} {v:Nat} {x0 x1 x3 x4:Option D},La.IsPl v X G→La.Bd 20000 G→G.length≤4→(retF (callF (consD (callF (consD (vF 2) nilF) F_leads) nilF) F_chained)) [x0,x1,some (lotD G),x3,x4]=some (.rt (rowD (La.chainZ (leadsZ G)))):=fun {G X v x0 x1 x3 x4} hG bG nG=>by
    have li:=leads_in hG
    have pr:∀ (L:List Int),(∀ x∈L,x.natAbs≤2 ^ 20000)→(La.prod L).natAbs≤2 ^ (L.length*20000):=by
      intro L
      induction L with
      | nil=>intro _;simp [La.prod]
      | cons a L ih =>
        intro h
        simp only [La.prod,List.length_cons]
        rw [Int.natAbs_mul,Nat.add_mul,Nat.one_mul,Nat.add_comm,Nat.pow_add]
        exact Nat.mul_le_mul (h a List.mem_cons_self) (ih fun x hx=>h x (List.mem_cons_of_mem _ hx))
    have h1:=pr (leadsZ G) fun x hx=>by
      obtain ⟨r,hr,rfl⟩:=List.mem_map.mp hx
      exact bG r hr _
    have ll:(leadsZ G).length≤4:=by simp [leadsZ];exact nG
    refine retF_rt ((callF_eq (consD_eq ((callF_eq (consD_eq rfl rfl)).trans (F_leads_eq fun r hr=>(li r hr).1)) rfl)).trans (F_chained_eq (S:=80000) (fun x hx=>?_) (by omega) (by decide) (Nat.le_trans h1 (Nat.pow_le_pow_right (by decide) (by omega)))))
    obtain ⟨r,hr,rfl⟩:=List.mem_map.mp hx
    exact (li r hr).2
  have st:(setF 2 (callF (consD (vF 0) (consD (vF 1) nilF)) F_plain)) [some (lotD rows),some (.int (w:Int)),none,none,none]=some (.nx [some (lotD rows),some (.int (w:Int)),some (lotD P),none,none]):=(setF_nx ((callF_eq (consD_eq rfl (consD_eq rfl rfl))).trans (F_plain_eq hok hP))).trans rfl
  by_cases ha:P.all La.alZ=true
  · refine ⟨La.chainZ (leadsZ P),runD_rt rfl ((seqF_nx st).trans ((seqF_nx (δ':=[some (lotD rows),some (.int (w:Int)),some (lotD P),some (.int (w:Int)),none]) rfl).trans ((seqF_nx (whF_eq (n:=1) (fl:=.nx [some (lotD rows),some (.int (w:Int)),some (lotD P),some (.int (w:Int)),none]) ?_)).trans (fin hP hs hr)))),?_⟩
    · unfold whileD
      rw [alone_test,ha];rfl
    · have:=La.gr_alone hP hr ha
      rwa [qz_leads] at this
  · have ha':P.all La.alZ=false:=by simpa using ha
    obtain ⟨H,hH,_⟩:=La.plain_exists (w:=P.length) (lot:=La.uprZ w P) La.uprZ_lens (La.uprZ_bd hs)
    have lH:=La.turned_len hP hH
    obtain ⟨F,hE⟩:=La.endL_exists hH lH
    have g:=La.gr_turned hP hr hH hE
    have hL:∀ v∈rows.map La.fv,∀ j,(v j).natAbs≤2 ^ b:=fun v hv j=>by
      obtain ⟨r,hr,rfl⟩:=List.mem_map.mp hv
      exact hb r hr j
    have bG:∀ {G:List (List Int)},La.EndL P.length G F→La.Bd 8012 G:=fun {G} h=>(La.turned_bd hr hL g h).mono (by omega)
    have hok1:PlOk (La.uprZ w P) P.length:=⟨La.uprZ_lens,by rw [La.uprZ_len];omega,by omega,.inl ⟨20000,La.uprZ_bd hs,by
      have h1:=ss_mono 20000 (show min P.length (La.uprZ w P).length≤4 by omega)
      have h2:La.ss 20000 4+La.bb 20000 4<59000000:=by decide
      omega⟩⟩
    obtain ⟨n,x4,e⟩:=turns_loop (x0:=some (lotD rows)) (x1:=some (.int (w:Int))) (s:=8012) hr (by decide) hE bG (some (lotD (La.uprZ w P)))
    obtain ⟨⟨X,hF⟩,lF,aF⟩:=hE.fin
    have bF:La.Bd 20000 F:=(bG (.done hF lF aF)).mono (by decide)
    refine ⟨La.chainZ (leadsZ F),runD_rt rfl ((seqF_nx st).trans ((seqF_nx (δ':=[some (lotD rows),some (.int (w:Int)),some (lotD P),some (.int (w:Int)),none]) rfl).trans ((seqF_nx (whF_eq (n:=n+1) (fl:=.nx [some (lotD rows),some (.int (w:Int)),some (lotD F),some (.int (P.length:Int)),x4]) ?_)).trans (fin hF bF (by omega))))),?_⟩
    · unfold whileD
      rw [alone_test,ha',Option.bind_some,if_pos (show (!false)=true from rfl),turn_step hP.len (by omega) hok1 hH,Option.bind_some]
      exact e
    · rwa [qz_leads] at g
def matD (vs:List La.Vec) (C:List Nat):D:=.lst (vs.map fun v=>.lst ((C.map v).map D.int))
theorem sl_take (r:List Int) (k:Nat):slD (.lst (r.map D.int)) none (some (k:Int))=some (.lst ((r.take k).map D.int)):=by
  show some (D.lst (cutD _ _ _))=_
  rw [cutD_map]
  unfold cutG
  rw [HT.sIx_none,HT.sIx_nat,List.drop_zero,Nat.sub_zero]
  congr 3
  rcases Nat.le_total k r.length with z | z
  · rw [Nat.min_eq_left z]
  · rw [Nat.min_eq_right z,List.take_of_length_le (Nat.le_refl _),List.take_of_length_le z]
theorem sl_drop (r:List Int) (k:Nat):slD (.lst (r.map D.int)) (some (k:Int)) none=some (.lst ((r.drop k).map D.int)):=by
  show some (D.lst (cutD _ _ _))=_
  rw [cutD_map]
  unfold cutG
  rw [HT.sIx_none,HT.sIx_nat,List.take_of_length_le (by simp)]
  congr 3
  rcases Nat.le_total k r.length with z | z
  · rw [Nat.min_eq_left z]
  · rw [Nat.min_eq_right z,List.drop_eq_nil_of_le (Nat.le_refl _),List.drop_eq_nil_of_le z]
theorem add_ll {r s:List Int} (h:r.length+s.length≤1000):addD (.lst (r.map D.int)) (.lst (s.map D.int))=some (.lst ((r++s).map D.int)):=by
  show (if _ then _ else _)=_
  rw [if_pos (fit_of (by simpa using h)),← List.map_append]
def sg (p:Nat):Int:=1-2*(p:Int).fmod 2
theorem sg_succ (p:Nat):sg (p+1) = - sg p:=by
  unfold sg
  rw [Int.fmod_eq_emod_of_nonneg _ (by decide),Int.fmod_eq_emod_of_nonneg _ (by decide)]
  omega
theorem sg_le (p:Nat):(sg p).natAbs≤1:=by
  unfold sg
  rw [Int.fmod_eq_emod_of_nonneg _ (by decide)]
  omega
def mbF (Fm:List D→Option D):DS→Option DF:=seqF (setL 4 (compF (itF (slF (vF 0) (oS (cF (.int 1))) oN)) (bind1 0) yesT (bind2 (slF (vF 0) oN (oS (vF 1))) (slF (vF 0) (oS (bind2 (vF 1) (cF (.int 1)) addD)) oN) addD) [none,some 2])) (setF 1 (bind2 (vF 1) (bind2 (bind2 (bind2 (cF (.int 1)) (bind2 (cF (.int 2)) (bind2 (vF 2) (cF (.int 2)) modD) mulD) subD) (vF 3) mulD) (callF (consD (vF 4) nilF) Fm) mulD) addD))
theorem mixed_loop {Fm:List D→Option D} {v:La.Vec} {vs:List La.Vec} {C:List Nat} (hb:∀ j,(v j).natAbs≤2 ^ 31) (hC:C.length≤3) (hm:∀ C':List Nat,C'.length+1=C.length→Fm [matD vs C']=some (.int (La.mi vs C'))):∀ (js pr:List Nat) (acc:Int) (x2 x3 x4:Option D),C=pr++js →
    ∃ x2' x3' x4',forD (bindP 2 3) (mbF Fm) (enumFrom pr.length ((js.map v).map D.int)) [some (matD (v::vs) C),some (.int acc),x2,x3,x4]=some (.nx [some (matD (v::vs) C),some (.int (acc+sg pr.length*La.lap v (La.mi vs) pr js)),x2',x3',x4'])
  | [],pr,acc,x2,x3,x4,_=>⟨x2,x3,x4,by simp [forD,enumFrom,La.lap]⟩
  | j::js,pr,acc,x2,x3,x4,hpr=>by
    have hc:pr.length+js.length+1≤3:=by rw [hpr] at hC;simp at hC;omega
    obtain ⟨x2',x3',x4',e⟩:=mixed_loop (Fm:=Fm) (v:=v) (vs:=vs) (C:=C) hb hC hm js (pr++[j]) (acc+sg pr.length*v j*La.mi vs (pr++js)) (some (.int (pr.length:Int))) (some (.int (v j))) (some (matD vs (pr++js))) (by rw [hpr,List.append_assoc];rfl)
    rw [show (pr++[j]).length=pr.length+1 by simp] at e
    refine ⟨x2',x3',x4',?_⟩
    rw [List.map_cons,List.map_cons]
    unfold enumFrom forD
    have b1:bindP 2 3 (D.tup [.int (pr.length:Int),.int (v j)]) [some (matD (v::vs) C),some (.int acc),x2,x3,x4]=some [some (matD (v::vs) C),some (.int acc),some (.int (pr.length:Int)),some (.int (v j)),x4]:=rfl
    have c1:compD (bind1 0) yesT (bind2 (slF (vF 0) oN (oS (vF 1))) (slF (vF 0) (oS (bind2 (vF 1) (cF (.int 1)) addD)) oN) addD) [none,some (.int (pr.length:Int))] (vs.map fun u=>.lst ((C.map u).map D.int))=some (vs.map fun u=>.lst (((pr++js).map u).map D.int)):=by
      refine compD_map (fun δ=>∃ a,δ=[a,some (.int (pr.length:Int))]) (fun u=>D.lst ((C.map u).map D.int)) _ _ _ ⟨none,rfl⟩ ?_
      rintro u _ δ ⟨a,rfl⟩
      refine ⟨[some (.lst ((C.map u).map D.int)),some (.int (pr.length:Int))],rfl,⟨_,rfl⟩,rfl,?_⟩
      refine (bind2_eq (x:=.lst (((C.map u).take pr.length).map D.int)) (y:=.lst (((C.map u).drop (pr.length+1)).map D.int)) ?_ ?_).trans ?_
      · show slD (.lst ((C.map u).map D.int)) none (some (pr.length:Int))=_
        exact sl_take _ _
      · show slD (.lst ((C.map u).map D.int)) (some ((pr.length:Int)+1)) none=_
        exact sl_drop _ (pr.length+1)
      · rw [add_ll (by simp;omega)]
        congr 3
        rw [hpr,List.map_append,List.map_append,List.map_cons]
        congr 1
        · exact List.take_left' (by simp)
        · rw [List.drop_append,List.drop_eq_nil_of_le (by simp),List.nil_append]
          have:pr.length+1-(pr.map u).length=1:=by simp
          rw [this];rfl
    have it:itF (slF (vF 0) (oS (cF (.int 1))) oN) [some (matD (v::vs) C),some (.int acc),some (.int (pr.length:Int)),some (.int (v j)),x4]=some (vs.map fun u=>.lst ((C.map u).map D.int)):=by
      have:slF (vF 0) (oS (cF (.int 1))) oN [some (matD (v::vs) C),some (.int acc),some (.int (pr.length:Int)),some (.int (v j)),x4]=some (.lst (vs.map fun u=>.lst ((C.map u).map D.int))):=by
        show slD (.lst _) (some 1) none=_
        rw [slD_tail]
        rfl
      unfold itF
      rw [this];rfl
    have s1:setL 4 (compF (itF (slF (vF 0) (oS (cF (.int 1))) oN)) (bind1 0) yesT (bind2 (slF (vF 0) oN (oS (vF 1))) (slF (vF 0) (oS (bind2 (vF 1) (cF (.int 1)) addD)) oN) addD) [none,some 2]) [some (matD (v::vs) C),some (.int acc),some (.int (pr.length:Int)),some (.int (v j)),x4]=some (.nx [some (matD (v::vs) C),some (.int acc),some (.int (pr.length:Int)),some (.int (v j)),some (matD vs (pr++js))]):=by
      unfold setL
      rw [compF_eq it c1]
      rfl
    have hs:=sg_le pr.length
    have hv:=hb j
    have h31:(2:Nat) ^ 31=2147483648:=by decide
    have hp:(sg pr.length*v j).natAbs≤2147483648:=by
      rw [Int.natAbs_mul]
      exact Nat.le_trans (Nat.mul_le_mul hs hv) (by omega)
    have e1:bind2 (cF (.int 1)) (bind2 (cF (.int 2)) (bind2 (vF 2) (cF (.int 2)) modD) mulD) subD [some (matD (v::vs) C),some (.int acc),some (.int (pr.length:Int)),some (.int (v j)),some (matD vs (pr++js))]=some (.int (sg pr.length)) :=
      (bind2_eq rfl ((bind2_eq rfl ((bind2_eq rfl rfl).trans (modD_int (by decide)))).trans (mulD_int (okMul_l (by decide) (by decide))))).trans rfl
    have e2:=hm (pr++js) (by rw [hpr];simp;omega)
    have s2:setF 1 (bind2 (vF 1) (bind2 (bind2 (bind2 (cF (.int 1)) (bind2 (cF (.int 2)) (bind2 (vF 2) (cF (.int 2)) modD) mulD) subD) (vF 3) mulD) (callF (consD (vF 4) nilF) Fm) mulD) addD) [some (matD (v::vs) C),some (.int acc),some (.int (pr.length:Int)),some (.int (v j)),some (matD vs (pr++js))]=some (.nx [some (matD (v::vs) C),some (.int (acc+sg pr.length*v j*La.mi vs (pr++js))),some (.int (pr.length:Int)),some (.int (v j)),some (matD vs (pr++js))]) :=
      (setF_nx ((bind2_eq rfl ((bind2_eq ((bind2_eq e1 rfl).trans (mulD_int (okMul_l (by omega) (by omega)))) ((callF_eq (consD_eq rfl rfl)).trans e2)).trans (mulD_int (okMul_l (by omega) (by omega))))).trans rfl)).trans rfl
    rw [b1,Option.bind_some,show mbF Fm [some (matD (v::vs) C),some (.int acc),some (.int (pr.length:Int)),some (.int (v j)),x4]=_ from (seqF_nx s1).trans s2,Option.bind_some]
    have e3:acc+sg pr.length*La.lap v (La.mi vs) pr (j::js)=acc+sg pr.length*v j*La.mi vs (pr++js)+sg (pr.length+1)*La.lap v (La.mi vs) (pr++[j]) js:=by
      rw [sg_succ]
      simp only [La.lap]
      grind
    rw [e3]
    exact e
theorem F_mixed_n:∀ (n:Nat) (vs:List La.Vec) (C:List Nat),vs.length<n→vs.length=C.length→C.length≤3→(∀ v∈vs,∀ j,(v j).natAbs≤2 ^ 31)→Fn__law_mixed n [matD vs C]=some (.int (La.mi vs C))
  | 0,_,_,h,_,_,_=>absurd h (Nat.not_lt_zero _)
  | n+1,[],C,_,_,_,_=>by
    refine runD_rt rfl ?_
    rfl
  | n+1,v::vs,C,h,hl,hC,hb=>by
    obtain ⟨x2,x3,x4,e⟩:=mixed_loop (Fm:=Fn__law_mixed n) (v:=v) (vs:=vs) (C:=C) (hb v List.mem_cons_self) hC (fun C' hC'=>F_mixed_n n vs C' (by simp at h;omega) (by simp at hl;omega) (by omega) fun u hu=>hb u (List.mem_cons_of_mem _ hu)) C [] 0 none none none rfl
    refine runD_rt rfl ?_
    refine (skip_if rfl).trans ?_
    refine (seqF_nx (δ':=[some (matD (v::vs) C),some (.int 0),none,none,none]) rfl).trans ?_
    have it:fsF (consD (bind2 (vF 0) (cF (.int 0)) ixD) nilF) enumD [some (matD (v::vs) C),some (.int 0),none,none,none]=some (enumFrom 0 ((C.map v).map D.int)):=by
      have:bind2 (vF 0) (cF (.int 0)) ixD [some (matD (v::vs) C),some (.int 0),none,none,none]=some (.lst ((C.map v).map D.int)):=by
        refine (bind2_eq rfl rfl).trans ?_
        exact atI_nat (j:=0) (xs:=_::_) rfl
      unfold fsF
      rw [consD_eq this rfl]
      rfl
    refine (seqF_nx (forF_nx it e)).trans (retF_rt ?_)
    show some (D.int (0+sg 0*La.lap v (La.mi vs) [] C))=some (D.int (La.mi (v::vs) C))
    congr 2
    show 0+sg 0*_=La.lap v (La.mi vs) [] C
    rw [show sg 0=1 from rfl,Int.one_mul,Int.zero_add]
theorem F_mixed_eq {vs:List La.Vec} {C:List Nat} (hl:vs.length=C.length) (hC:C.length≤3) (hb:∀ v∈vs,∀ j,(v j).natAbs≤2 ^ 31):F__law_mixed [matD vs C]=some (.int (La.mi vs C)):=F_mixed_n 5 vs C (by omega) hl hC hb
def bitsN (n:Nat):List Nat:=(List.range 3).filter fun k=>n / 2 ^ k % 2==1
def subsN (m k:Nat):List (List Nat):=((List.range 8).map bitsN).filter fun s=>s.length==k&&s.all fun x=>decide (x<m)
def natsD (C:List Nat):D:=.lst (C.map fun (i:Nat)=>D.int (i:Int))
theorem subs_ok:∀ m:Fin 4,∀ k:Fin 5,∀ C∈subsN m.val k.val,C.length=k.val∧(∀ c∈C,c<m.val)∧C.length≤3:=by decide +kernel
theorem F_some_eq {m k:Nat} (hm:m≤3) (h1:1≤k) (hk:k≤4):F__law_some [.int (m:Int),.int (k:Int)]=some (.lst ((subsN m k).map natsD)):=by
  have h:(m=0∨m=1∨m=2∨m=3)∧(k=1∨k=2∨k=3∨k=4):=by omega
  obtain ⟨rfl | rfl | rfl | rfl,rfl | rfl | rfl | rfl⟩:=h<;>rfl
theorem by_while {x0 x1 x2 x4 x5:Option D}:∀ (n a b:Nat),b<n→whileD (bT (bind2 (vF 6) (cF (.int 0)) gtD)) (parF 3 6 (vF 6) (bind2 (vF 3) (vF 6) modD)) n [x0,x1,x2,some (.int (a:Int)),x4,x5,some (.int (b:Int))]=some (.nx [x0,x1,x2,some (.int (Nat.gcd a b:Int)),x4,x5,some (.int 0)])
  | 0,_,_,h=>by omega
  | n+1,a,b,h=>by
    unfold whileD
    have t:bT (bind2 (vF 6) (cF (.int 0)) gtD) [x0,x1,x2,some (.int (a:Int)),x4,x5,some (.int (b:Int))]=some (decide ((0:Int)<(b:Int))):=bT_eq ((bind2_eq rfl rfl).trans rfl)
    rw [t,Option.bind_some]
    by_cases hb:b=0
    · subst hb
      simp
    · have hm:(a:Int).fmod (b:Int)=((a % b:Nat):Int):=by
        rw [Int.fmod_eq_emod_of_nonneg _ (by omega)];rfl
      have e:=by_while (x0:=x0) (x1:=x1) (x2:=x2) (x4:=x4) (x5:=x5) n b (a % b) (by have:=Nat.mod_lt a (show 0<b by omega);omega)
      have st:parF 3 6 (vF 6) (bind2 (vF 3) (vF 6) modD) [x0,x1,x2,some (.int (a:Int)),x4,x5,some (.int (b:Int))]=some (.nx [x0,x1,x2,some (.int (b:Int)),x4,x5,some (.int ((a % b:Nat):Int))]):=by
        have m:bind2 (vF 3) (vF 6) modD [x0,x1,x2,some (.int (a:Int)),x4,x5,some (.int (b:Int))]=some (.int ((a % b:Nat):Int)):=(bind2_eq rfl rfl).trans ((modD_int (by omega)).trans (by rw [hm]))
        unfold parF
        rw [m]
        rfl
      rw [if_pos (by simp;omega),st,Option.bind_some]
      have eg:Nat.gcd b (a % b)=Nat.gcd a b:=by rw [Nat.gcd_comm a b,Nat.gcd_rec b a,Nat.gcd_comm]
      rw [eg] at e
      exact e
theorem ix_lot {L:List (List Int)} {i:Nat} (hi:i<L.length):ixD (lotD L) (.int (i:Int))=some (rowD L[i]):=by
  show atI (L.map rowD) (i:Int)=_
  refine atI_nat ?_
  rw [List.getElem?_map,List.getElem?_eq_getElem hi]
  rfl
noncomputable def icF:DS→Option DF:=seqF (setF 6 (callF (consD (callF (consD (lstF (compF (itF (vF 4)) (bind1 0) yesT (lstF (compF (itF (vF 1)) (bind1 0) yesT (bind2 (bind2 (vF 1) (vF 2) ixD) (vF 0) ixD) [none,some 2,some 0])) [none,some 5,some 0])) nilF) F__law_mixed) nilF) absD)) (whF (bT (bind2 (vF 6) (cF (.int 0)) gtD)) (parF 3 6 (vF 6) (bind2 (vF 3) (vF 6) modD)))
def gcdOf (V:List La.Vec) (R:List Nat) (g:Nat) (C:List Nat):Nat:=Nat.gcd g (La.mi (R.map (La.rw' V)) C).natAbs
def comN (V:List La.Vec) (n w k:Nat):Nat:=(subsN n k).foldl (fun g R=>(subsN w k).foldl (gcdOf V R) g) 0
theorem ic_step {L:List (List Int)} {w:Nat} {x2 x6:Option D} {R C:List Nat} {g:Nat} (hl:∀ r∈L,r.length=w) (hb:La.Bd 31 L) (hR:∀ i∈R,i<L.length) (hC:∀ c∈C,c<w) (hl2:R.length=C.length) (h3:C.length≤3) :
    icF [some (lotD L),some (.int (w:Int)),x2,some (.int (g:Int)),some (natsD R),some (natsD C),x6]=some (.nx [some (lotD L),some (.int (w:Int)),x2,some (.int (gcdOf (L.map La.fv) R g C:Int)),some (natsD R),some (natsD C),some (.int 0)]):=by
  have inner:∀ i,i<L.length→∀ a:Option D,lstF (compF (itF (vF 1)) (bind1 0) yesT (bind2 (bind2 (vF 1) (vF 2) ixD) (vF 0) ixD) [none,some 2,some 0]) [some (.int (i:Int)),some (natsD C),some (lotD L)]=some (.lst ((C.map (La.rw' (L.map La.fv) i)).map D.int)):=by
    intro i hi a
    refine lstF_eq (compF_eq (ds:=C.map fun (c:Nat)=>D.int (c:Int)) rfl ?_)
    rw [List.map_map]
    refine compD_map (fun δ=>∃ a,δ=[a,some (lotD L),some (.int (i:Int))]) (fun (c:Nat)=>D.int (c:Int)) _ _ _ ⟨none,rfl⟩ ?_
    rintro c hc δ ⟨a,rfl⟩
    refine ⟨[some (.int (c:Int)),some (lotD L),some (.int (i:Int))],rfl,⟨_,rfl⟩,rfl,?_⟩
    refine (bind2_eq ((bind2_eq rfl rfl).trans (ix_lot hi)) rfl).trans ?_
    rw [ixD_row (by rw [hl _ (List.getElem_mem hi)];exact hC c hc)]
    show _=some (D.int (La.rw' (L.map La.fv) i c))
    rw [La.rw_fv hi]
    rfl
  have mat:lstF (compF (itF (vF 4)) (bind1 0) yesT (lstF (compF (itF (vF 1)) (bind1 0) yesT (bind2 (bind2 (vF 1) (vF 2) ixD) (vF 0) ixD) [none,some 2,some 0])) [none,some 5,some 0]) [some (lotD L),some (.int (w:Int)),x2,some (.int (g:Int)),some (natsD R),some (natsD C),x6]=some (matD (R.map (La.rw' (L.map La.fv))) C):=by
    refine lstF_eq (compF_eq (ds:=R.map fun (i:Nat)=>D.int (i:Int)) rfl ?_)
    rw [List.map_map]
    refine compD_map (fun δ=>∃ a,δ=[a,some (natsD C),some (lotD L)]) (fun (i:Nat)=>D.int (i:Int)) _ _ _ ⟨none,rfl⟩ ?_
    rintro i hi δ ⟨a,rfl⟩
    exact ⟨[some (.int (i:Int)),some (natsD C),some (lotD L)],rfl,⟨_,rfl⟩,rfl,inner i (hR i hi) none⟩
  have fm:=F_mixed_eq (vs:=R.map (La.rw' (L.map La.fv))) (C:=C) (by simpa using hl2) h3 (fun v hv j=>by
    obtain ⟨i,hi,rfl⟩:=List.mem_map.mp hv
    rw [La.rw_fv (hR i hi)]
    exact hb _ (List.getElem_mem _) j)
  unfold icF
  refine (seqF_nx (δ':=[some (lotD L),some (.int (w:Int)),x2,some (.int (g:Int)),some (natsD R),some (natsD C),some (.int ((La.mi (R.map (La.rw' (L.map La.fv))) C).natAbs:Int))]) ((setF_nx (d:=.int ((La.mi (R.map (La.rw' (L.map La.fv))) C).natAbs:Int)) ?_).trans rfl)).trans ?_
  · refine (callF_eq (consD_eq ((callF_eq (consD_eq mat rfl)).trans fm) rfl)).trans ?_
    show some (D.int (if La.mi (R.map (La.rw' (L.map La.fv))) C<0 then-La.mi (R.map (La.rw' (L.map La.fv))) C else La.mi (R.map (La.rw' (L.map La.fv))) C))=_
    rw [abs_nat]
  · exact whF_eq (by_while _ _ _ (Nat.lt_succ_self _))
theorem ic_loop {L:List (List Int)} {w:Nat} {x2:Option D} {R:List Nat} {k:Nat} (hl:∀ r∈L,r.length=w) (hb:La.Bd 31 L) (hR:∀ i∈R,i<L.length) (hRl:R.length=k):∀ (Cs:List (List Nat)) (g:Nat) (x5 x6:Option D),(∀ C∈Cs,C.length=k∧(∀ c∈C,c<w)∧C.length≤3) →
    ∃ x5' x6',forD (bind1 5) icF (Cs.map natsD) [some (lotD L),some (.int (w:Int)),x2,some (.int (g:Int)),some (natsD R),x5,x6]=some (.nx [some (lotD L),some (.int (w:Int)),x2,some (.int ((Cs.foldl (gcdOf (L.map La.fv) R) g:Nat):Int)),some (natsD R),x5',x6'])
  | [],g,x5,x6,_=>⟨x5,x6,rfl⟩
  | C::Cs,g,x5,x6,h=>by
    obtain ⟨h1,h2,h3⟩:=h C List.mem_cons_self
    obtain ⟨x5',x6',e⟩:=ic_loop (x2:=x2) hl hb hR hRl Cs (gcdOf (L.map La.fv) R g C) (some (natsD C)) (some (.int 0)) fun q hq=>h q (List.mem_cons_of_mem _ hq)
    refine ⟨x5',x6',?_⟩
    rw [List.map_cons]
    unfold forD
    have b1:bind1 5 (natsD C) [some (lotD L),some (.int (w:Int)),x2,some (.int (g:Int)),some (natsD R),x5,x6]=some [some (lotD L),some (.int (w:Int)),x2,some (.int (g:Int)),some (natsD R),some (natsD C),x6]:=rfl
    rw [b1,Option.bind_some,ic_step hl hb hR h2 (hRl.trans h1.symm) h3,Option.bind_some,List.foldl_cons]
    exact e
theorem oc_loop {L:List (List Int)} {w k:Nat} (hl:∀ r∈L,r.length=w) (hb:La.Bd 31 L) (hw:w≤3) (h1:1≤k) (hk:k≤4):∀ (Rs:List (List Nat)) (g:Nat) (x4 x5 x6:Option D),(∀ R∈Rs,R.length=k∧(∀ c∈R,c<L.length)∧R.length≤3) →
    ∃ x4' x5' x6',forD (bind1 4) (forF (itF (callF (consD (vF 1) (consD (vF 2) nilF)) F__law_some)) (bind1 5) icF) (Rs.map natsD) [some (lotD L),some (.int (w:Int)),some (.int (k:Int)),some (.int (g:Int)),x4,x5,x6]=some (.nx [some (lotD L),some (.int (w:Int)),some (.int (k:Int)),some (.int ((Rs.foldl (fun g R=>(subsN w k).foldl (gcdOf (L.map La.fv) R) g) g:Nat):Int)),x4',x5',x6'])
  | [],g,x4,x5,x6,_=>⟨x4,x5,x6,rfl⟩
  | R::Rs,g,x4,x5,x6,h=>by
    obtain ⟨r1,r2,r3⟩:=h R List.mem_cons_self
    have sk:=subs_ok ⟨w,by omega⟩ ⟨k,by omega⟩
    obtain ⟨y5,y6,e1⟩:=ic_loop (x2:=some (.int (k:Int))) hl hb r2 r1 (subsN w k) g x5 x6 sk
    obtain ⟨x4',x5',x6',e⟩:=oc_loop hl hb hw h1 hk Rs ((subsN w k).foldl (gcdOf (L.map La.fv) R) g) (some (natsD R)) y5 y6 fun q hq=>h q (List.mem_cons_of_mem _ hq)
    refine ⟨x4',x5',x6',?_⟩
    rw [List.map_cons]
    unfold forD
    have b1:bind1 4 (natsD R) [some (lotD L),some (.int (w:Int)),some (.int (k:Int)),some (.int (g:Int)),x4,x5,x6]=some [some (lotD L),some (.int (w:Int)),some (.int (k:Int)),some (.int (g:Int)),some (natsD R),x5,x6]:=rfl
    have it:itF (callF (consD (vF 1) (consD (vF 2) nilF)) F__law_some) [some (lotD L),some (.int (w:Int)),some (.int (k:Int)),some (.int (g:Int)),some (natsD R),x5,x6]=some ((subsN w k).map natsD):=by
      unfold itF
      rw [(callF_eq (consD_eq rfl (consD_eq rfl rfl))).trans (F_some_eq hw h1 hk)]
      rfl
    rw [b1,Option.bind_some,forF_nx it e1,Option.bind_some,List.foldl_cons]
    exact e
theorem F_common_eq {L:List (List Int)} {w k:Nat} (hl:∀ r∈L,r.length=w) (hb:La.Bd 31 L) (hn:L.length≤3) (hw:w≤3) (h1:1≤k) (hk:k≤4):F__law_common [lotD L,.int (w:Int),.int (k:Int)]=some (.int (comN (L.map La.fv) L.length w k:Int)):=by
  obtain ⟨x4,x5,x6,e⟩:=oc_loop hl hb hw h1 hk (subsN L.length k) 0 none none none (subs_ok ⟨L.length,by omega⟩ ⟨k,by omega⟩)
  refine runD_rt rfl ?_
  refine (seqF_nx (δ':=[some (lotD L),some (.int (w:Int)),some (.int (k:Int)),some (.int ((0:Nat):Int)),none,none,none]) rfl).trans ?_
  have it:itF (callF (consD (callF (consD (vF 0) nilF) lenD) (consD (vF 2) nilF)) F__law_some) [some (lotD L),some (.int (w:Int)),some (.int (k:Int)),some (.int ((0:Nat):Int)),none,none,none]=some ((subsN L.length k).map natsD):=by
    unfold itF
    rw [(callF_eq (consD_eq ((callF_eq (consD_eq rfl rfl)).trans (len_lot L)) (consD_eq rfl rfl))).trans (F_some_eq hn h1 hk)]
    rfl
  exact (seqF_nx (forF_nx it e)).trans (retF_rt rfl)
theorem subs_mem1:∀ m:Fin 4,∀ a:Fin 3,a.val<m.val→[a.val]∈subsN m.val 1:=by decide +kernel
theorem subs_mem2:∀ m:Fin 4,∀ a b:Fin 3,a.val<b.val→b.val<m.val→[a.val,b.val]∈subsN m.val 2:=by decide +kernel
theorem subs_mem3:[0,1,2]∈subsN 3 3:=by decide +kernel
theorem perm_ix {m:Nat} (hm:m≤3):∀ (js:List Nat),1≤js.length→js.length≤3→(∀ j∈js,j<m)→(∀ vs:List La.Vec,vs.length=js.length→La.mi vs js=0) ∨ ∃ C∈subsN m js.length,∃ s:Int,∀ vs:List La.Vec,vs.length=js.length→La.mi vs js=s*La.mi vs C
  | [],h,_,_=>by simp at h
  | [a],_,_,h=>by
    have ha:=h a List.mem_cons_self
    exact .inr ⟨[a],subs_mem1 ⟨m,by omega⟩ ⟨a,by omega⟩ ha,1,fun vs _=>by rw [Int.one_mul]⟩
  | [a,b],_,_,h=>by
    have ha:=h a List.mem_cons_self
    have hb:=h b (List.mem_cons_of_mem _ List.mem_cons_self)
    rcases Nat.lt_trichotomy a b with z | z | z
    · exact .inr ⟨[a,b],subs_mem2 ⟨m,by omega⟩ ⟨a,by omega⟩ ⟨b,by omega⟩ z hb,1,fun vs _=>by rw [Int.one_mul]⟩
    · subst z
      refine .inl fun vs hl=>?_
      match vs,hl with
      | [u,v],_=>exact La.mi_dup2 u v a
    · refine .inr ⟨[b,a],subs_mem2 ⟨m,by omega⟩ ⟨b,by omega⟩ ⟨a,by omega⟩ z ha,-1,fun vs hl=>?_⟩
      match vs,hl with
      | [u,v],_ =>
        simp only [La.mi,La.lap,List.nil_append,List.cons_append]
        grind
  | [a,b,c],_,_,h=>by
    have ha:=h a List.mem_cons_self
    have hb:=h b (List.mem_cons_of_mem _ List.mem_cons_self)
    have hc:=h c (List.mem_cons_of_mem _ (List.mem_cons_of_mem _ List.mem_cons_self))
    by_cases hd:a=b∨a=c∨b=c
    · refine .inl fun vs hl=>?_
      match vs,hl with
      | [u,v,x],_=>exact La.mi_dup3 u v x a b c hd
    · have m3:m=3:=by omega
      subst m3
      have hh:(a=0∧b=1∧c=2)∨(a=0∧b=2∧c=1)∨(a=1∧b=0∧c=2)∨(a=1∧b=2∧c=0)∨(a=2∧b=0∧c=1)∨(a=2∧b=1∧c=0):=by omega
      have key:∀ s:Int,(∀ u v x:La.Vec,La.mi [u,v,x] [a,b,c]=s*La.mi [u,v,x] [0,1,2])→∃ C∈subsN 3 [a,b,c].length,∃ s:Int,∀ vs:List La.Vec,vs.length=[a,b,c].length→La.mi vs [a,b,c]=s*La.mi vs C:=fun s hs=>⟨[0,1,2],subs_mem3,s,fun vs hl=>by
        match vs,hl with
        | [u,v,x],_=>exact hs u v x⟩
      rcases hh with ⟨rfl,rfl,rfl⟩ | ⟨rfl,rfl,rfl⟩ | ⟨rfl,rfl,rfl⟩ | ⟨rfl,rfl,rfl⟩ | ⟨rfl,rfl,rfl⟩ | ⟨rfl,rfl,rfl⟩
      · exact .inr (key 1 fun u v x=>by rw [Int.one_mul])
      · exact .inr (key (-1) fun u v x=>by simp only [La.mi,La.lap,List.nil_append,List.cons_append];grind)
      · exact .inr (key (-1) fun u v x=>by simp only [La.mi,La.lap,List.nil_append,List.cons_append];grind)
      · exact .inr (key 1 fun u v x=>by simp only [La.mi,La.lap,List.nil_append,List.cons_append];grind)
      · exact .inr (key 1 fun u v x=>by simp only [La.mi,La.lap,List.nil_append,List.cons_append];grind)
      · exact .inr (key (-1) fun u v x=>by simp only [La.mi,La.lap,List.nil_append,List.cons_append];grind)
  | _::_::_::_::_,_,h,_=>by simp at h
theorem mi_turn (V:List La.Vec) {is js:List Nat} (h:is.length=js.length) (h4:js.length≤4):La.mi (is.map (La.rw' V)) js=La.mi (js.map fun i j=>La.rw' V j i) is:=(La.mi_t (La.rw' V) js is h.symm h4).symm
theorem dv_subs {V:List La.Vec} {w k:Nat} {d:Int} (hn:V.length≤3) (hw:w≤3) (h1:1≤k) (hk:k≤3) (ho:∀ r∈V,∀ j,w≤j→r j=0):La.Dv k V d ↔ ∀ R∈subsN V.length k,∀ C∈subsN w k,d∣La.mi (R.map (La.rw' V)) C:=by
  have sn:=subs_ok ⟨V.length,by omega⟩ ⟨k,by omega⟩
  have sw:=subs_ok ⟨w,by omega⟩ ⟨k,by omega⟩
  constructor
  · intro h R hR C hC
    obtain ⟨r1,r2,_⟩:=sn R hR
    exact h _ (by rw [List.length_map];exact r1) (fun v hv=>by
      obtain ⟨i,hi,rfl⟩:=List.mem_map.mp hv
      exact La.rw_mem (r2 i hi)) C (sw C hC).1
  · intro h vs hl hv js hj
    obtain ⟨is,i1,i2,i3⟩:=La.mem_ix V vs hv
    have il:is.length=k:=i1.trans hl
    by_cases hj2:∀ j∈js,j<w
    · rcases perm_ix hw js (by omega) (by omega) hj2 with z | ⟨C,hC,s,z⟩
      · rw [z vs (by omega)];exact Int.dvd_zero d
      · rw [hj] at hC
        obtain ⟨c1,_,_⟩:=sw C hC
        rw [z vs (by omega),i2,mi_turn V (by rw [il];exact c1.symm) (by rw [c1];show k≤4;omega)]
        rcases perm_ix hn is (by omega) (by omega) i3 with y | ⟨R,hR,t,y⟩
        · rw [y _ (by rw [List.length_map,il];exact c1),Int.mul_zero];exact Int.dvd_zero d
        · rw [il] at hR
          obtain ⟨r1,_,_⟩:=sn R hR
          rw [y _ (by rw [List.length_map,il];exact c1),← mi_turn V (r1.trans c1.symm) (by rw [c1];show k≤4;omega)]
          exact Int.dvd_mul_of_dvd_right (Int.dvd_mul_of_dvd_right (h R hR C hC))
    · have:∃ j∈js,w≤j:=by
        refine Classical.byContradiction fun hc=>hj2 fun j hj=>?_
        exact Nat.lt_of_not_le fun z=>hc ⟨j,hj,z⟩
      obtain ⟨j,hj3,hj4⟩:=this
      rw [i2,mi_turn V (by omega) (by omega),La.mi_has_z is ?_]
      · exact Int.dvd_zero d
      · refine List.mem_map.mpr ⟨j,hj3,?_⟩
        funext i
        show La.rw' V i j=0
        by_cases hi:i<V.length
        · exact ho _ (La.rw_mem hi) j hj4
        · simp [La.rw',List.getD,List.getElem?_eq_none (Nat.le_of_not_lt hi),La.zV]
theorem foldl_dvd {α:Type} {d:Int} {h:Nat→α→Nat} {p:α→Prop} (hh:∀ g x,d∣(h g x:Int)↔d∣(g:Int)∧p x):∀ (xs:List α) (g:Nat),d∣((xs.foldl h g:Nat):Int)↔d∣(g:Int)∧∀ x∈xs,p x
  | [],g=>by simp
  | x::xs,g=>by
    rw [List.foldl_cons,foldl_dvd hh xs (h g x),hh]
    constructor
    · rintro ⟨⟨a,b⟩,c⟩
      exact ⟨a,fun y hy=>(List.mem_cons.mp hy).elim (fun e=>e ▸ b) (c y)⟩
    · rintro ⟨a,b⟩
      exact ⟨⟨a,b x List.mem_cons_self⟩,fun y hy=>b y (List.mem_cons_of_mem _ hy)⟩
theorem com_dvd {V:List La.Vec} {n w k:Nat} {d:Int}:d∣(comN V n w k:Int) ↔ ∀ R∈subsN n k,∀ C∈subsN w k,d∣La.mi (R.map (La.rw' V)) C:=by
  unfold comN
  have h1:∀ (R:List Nat) (g:Nat) (C:List Nat),d∣(gcdOf V R g C:Int)↔d∣(g:Int)∧d∣La.mi (R.map (La.rw' V)) C:=fun R g C=>by
    unfold gcdOf
    rw [← Int.natAbs_dvd_natAbs,Int.natAbs_natCast,Nat.dvd_gcd_iff,← Int.natAbs_dvd_natAbs (a:=d) (b:=(g:Int)),Int.natAbs_natCast,← Int.natAbs_dvd_natAbs (a:=d) (b:=La.mi _ C)]
  rw [foldl_dvd (d:=d) (p:=fun R=>∀ C∈subsN w k,d∣La.mi (R.map (La.rw' V)) C) (fun g R=>foldl_dvd (h1 R) (subsN w k) g)]
  constructor
  · exact fun h=>h.2
  · exact fun h=>⟨Int.dvd_zero d,h⟩
theorem nodup_lt:∀ (n:Nat) (l:List Nat),l.Nodup→(∀ x∈l,x<n)→l.length≤n
  | 0,[],_,_=>Nat.le_refl _
  | 0,a::l,_,h=>absurd (h a List.mem_cons_self) (Nat.not_lt_zero _)
  | n+1,l,hn,h=>by
    have ih:=nodup_lt n (l.erase n) (hn.erase n) fun x hx=>by
      have h1:=h x (List.mem_of_mem_erase hx)
      have h2:x≠n:=fun e=>by
        subst e
        exact (List.Nodup.not_mem_erase hn) hx
      omega
    have:=List.length_erase (a:=n) (l:=l)
    split at this<;>omega
theorem dv_rank {P V:List La.Vec} (e:La.Eqv P V) (hk:P.length+1≤4):La.Dv (P.length+1) V 0:=(La.Dv.congr e).mp fun vs hl hv js hj=>by
  obtain ⟨is,h1,h2,h3⟩:=La.mem_ix P vs hv
  rw [h2,mi_turn P (by omega) (by omega),La.mi_dup _ is (by rw [List.length_map];omega) (by omega) fun nd=>by
    have:=nodup_lt _ _ nd h3
    omega]
  exact Int.dvd_zero 0
theorem com_eq {V:List La.Vec} {w k r:Nat} {gs:List Int} (hn:V.length≤3) (hw:w≤3) (h1:1≤k) (hk:k≤r) (hr:r≤3) (ho:∀ q∈V,∀ j,w≤j→q j=0) (g:La.Gr r V gs):(comN V V.length w k:Int)=La.prod (gs.take k):=by
  have key:∀ d:Int,d∣(comN V V.length w k:Int)↔d∣La.prod (gs.take k):=fun d=>by
    rw [com_dvd,← dv_subs hn hw h1 (by omega) ho,g.div k hk]
  have p:=La.take_pos g.pos k
  have d1:=(key _).mp (Int.dvd_refl _)
  have d2:=(key _).mpr (Int.dvd_refl _)
  have c0:0<(comN V V.length w k:Int):=by
    rcases Nat.eq_zero_or_pos (comN V V.length w k) with z | z
    · rw [z] at d1
      have:=Int.zero_dvd.mp d1
      omega
    · omega
  exact La.dvd_antisymm_pos c0 p d1 d2
theorem com_zero {P V:List La.Vec} {w:Nat} (e:La.Eqv P V) (hn:V.length≤3) (hw:w≤3) (hk:P.length+1≤3) (ho:∀ q∈V,∀ j,w≤j→q j=0):comN V V.length w (P.length+1)=0:=by
  have h:=com_dvd.mpr ((dv_subs hn hw (by omega) hk ho).mp (dv_rank e (by omega)))
  have:=Int.zero_dvd.mp h
  omega
theorem chain_at:∀ {gs:List Int},La.Chain gs→∀ {s t:Nat},s<t→t<gs.length→La.at' gs s∣La.at' gs t
  | [],_,_,_,_,h=>by simp at h
  | a::gs,⟨h1,h2⟩,0,t+1,_,h=>by
    have ht:t<gs.length:=by simpa using h
    have:La.at' (a::gs) (t+1)=gs[t]:=by simp [La.at',List.getD,List.getElem?_eq_getElem ht]
    rw [this]
    exact h1 _ (List.getElem_mem ht)
  | a::gs,⟨h1,h2⟩,s+1,t+1,hs,h=>chain_at h2 (s:=s) (t:=t) (by omega) (by simpa using h)
theorem pl_ok {L:List (List Int)} {w:Nat} (hl:∀ r∈L,r.length=w) (hn:L.length≤60) (hw:w≤4) (hb:La.Bd 31 L):PlOk L w:=by
  refine ⟨hl,hn,by omega,.inl ⟨31,hb,?_⟩⟩
  have:min w L.length≤4:=Nat.le_trans (Nat.min_le_left _ _) hw
  generalize min w L.length=n at this
  have:n=0∨n=1∨n=2∨n=3∨n=4:=by omega
  rcases this with rfl | rfl | rfl | rfl | rfl<;>decide
theorem F_whole_int (n:Int):F__law_whole [.int n]=some (.bl true):=by
  refine runD_rt rfl ?_
  rfl
theorem len_row (r:List Int):lenD [rowD r]=some (.int (r.length:Int)):=by
  simp only [lenD,itemsD,rowD,List.length_map,Option.map_some]
theorem law_true (ns:List Int) (hns:ns.length≤63):F_law [.fro (ns.map D.int)]=some (.bl true):=by
  obtain ⟨w,hw1,hw3,hw⟩:=F_wide ns 3 (by decide)
  obtain ⟨L,hl,hn,lL,hbd⟩:=F_lot ns 1 w 3 (by omega) (by decide)
  rw [show ((3:Nat):Int)=3 from rfl] at hw hl
  rw [show ((1:Nat):Int)=1 from rfl] at hl
  have bL:La.Bd 12 L:=La.Bd.of_mem fun r hr x hx=>by
    have h1:=hbd r hr x hx
    have h2:8 ^ L.length≤8 ^ 3:=Nat.pow_le_pow_right (by decide) hn
    have:(8:Nat) ^ 3=512:=by decide
    have:(2:Nat) ^ 12=4096:=by decide
    omega
  obtain ⟨P,iP,pn,pw,bP,_⟩:=La.plain_exists lL bL
  have hr3:P.length≤3:=by omega
  have v:La.ss 12 3≤20000:=by decide
  have okL:PlOk L w:=pl_ok lL (by omega) (by omega) (bL.mono (by decide))
  obtain ⟨gs,eG,gG⟩:=grades_spec lL (by omega) (by omega) okL iP bL (bP.mono (by have:=(ss_mono 12 hr3).1;omega)) (by decide)
  have eP:=F_plain_eq okL iP
  have oL:=La.fvs_out lL
  have vl:(L.map La.fv).length=L.length:=by simp
  have com:∀ k,1≤k→k≤P.length→F__law_common [lotD L,.int (w:Int),.int (k:Int)]=some (.int (La.prod (gs.take k))):=fun k h1 h2=>by
    rw [F_common_eq lL (bL.mono (by decide)) hn hw3 h1 (by omega)]
    have:=com_eq (V:=L.map La.fv) (w:=w) (by omega) hw3 h1 h2 hr3 oL gG
    rw [vl] at this
    rw [this]
  have comL:=F_common_eq (k:=P.length+1) lL (bL.mono (by decide)) hn hw3 (by omega) (by omega)
  have size:(La.prod gs).natAbs≤2 ^ 42:=by
    have h:=gG.size (M:=2 ^ 12) (by omega) fun q hq j=>by
      obtain ⟨r,hr,rfl⟩:=List.mem_map.mp hq
      exact bL r hr j
    refine Nat.le_trans h (Nat.le_trans (Nat.pow_le_pow_right (by decide) hr3) (by decide))
  have gb:∀ x∈gs,-(2 ^ 64)<x∧x<2 ^ 64:=fun x hx=>by
    have hp:=gG.pos x hx
    have hd:=La.mem_dvd_prod hx
    have hpp:=La.prod_pos gG.pos
    have:=Int.le_of_dvd hpp hd
    have h42:(2:Nat) ^ 42=4398046511104:=by decide
    omega
  have call2:∀ {δ:DS} {f g:DS→Option D} {F:List D→Option D} {x y d:D},f δ=some x→g δ=some y→F [x,y]=some d→callF (consD f (consD g nilF)) F δ=some d:=fun {δ f g F x y d} h1 h2 h3=>(callF_eq (consD_eq h1 (consD_eq h2 rfl))).trans h3
  have call3:∀ {δ:DS} {f g h:DS→Option D} {F:List D→Option D} {x y z d:D},f δ=some x→g δ=some y→h δ=some z→F [x,y,z]=some d→callF (consD f (consD g (consD h nilF))) F δ=some d:=fun {δ f g h F x y z d} h1 h2 h3 h4=>(callF_eq (consD_eq h1 (consD_eq h2 (consD_eq h3 rfl)))).trans h4
  have neq:∀ n:Int,neD (.int n) (.int n)=some (.bl false):=fun n=>by
    show some (D.bl (!((n:Int)==n)))=_
    simp
  have glen:=gG.len
  refine runD_rt rfl ?_
  refine (seqF_nx (δ':=[some (.fro (ns.map D.int)),some (.int w),none,none,none,none,none]) (setF_nx ?_)).trans ?_
  · simp only [vF,cF,unF,nilF,callF,lstF,dispF,tupF,fsF,compF,oN,oS,bT,yesT,truT,andT,orT,notT,itF,nxF,retF,setF,setL,ifF,forF,seqF,consD,bind2,andD,orD,notD,asB,asI,runD,bind1,bindP,List.length_cons,List.length_nil,List.map_cons,List.map_nil,List.getElem?_cons_zero,List.getElem?_cons_succ,List.set_cons_zero,List.set_cons_succ,Option.join_some,Option.bind_some,Option.map_some,Option.join_none,Option.bind_none,Option.map_none,innD,List.cons_append,List.nil_append,List.replicate,Nat.sub_self,Nat.reduceAdd,Nat.reduceSub,if_true,if_false,hw]
  refine (seqF_nx (δ':=[some (.fro (ns.map D.int)),some (.int w),some (lotD L),none,none,none,none]) ((setF_nx ((callF_eq (consD_eq rfl (consD_eq rfl (consD_eq rfl (consD_eq rfl rfl))))).trans hl)).trans rfl)).trans ?_
  refine (seqF_nx (δ':=[some (.fro (ns.map D.int)),some (.int w),some (lotD L),some (rowD gs),none,none,none]) ((setF_nx (call2 rfl rfl eG)).trans rfl)).trans ?_
  refine (skip_if (orT_ff rfl (bT_eq ((bind2_eq (x:=.int (gs.length:Int)) (y:=.int (P.length:Int)) ((callF_eq (consD_eq rfl rfl)).trans (len_row gs)) ((callF_eq (consD_eq (call2 rfl rfl eP) rfl)).trans (len_lot P))).trans (by rw [glen];exact neq _))))).trans ?_
  refine (seqF_nx (δ':=[some (.fro (ns.map D.int)),some (.int w),some (lotD L),some (rowD gs),some (.int 1),none,none]) rfl).trans ?_
  have loop:∀ (t pre:List Int) (x5 x6:Option D),gs=pre++t →
      ∃ x5' x6',forD (bindP 5 6) (seqF (ifF (orT (notT (truT (callF (consD (vF 6) nilF) F__law_whole))) (orT (bT (bind2 (vF 6) (cF (.int 1)) ltD)) (andT (bT (bind2 (vF 5) (cF (.int 0)) gtD)) (bT (bind2 (bind2 (vF 6) (bind2 (vF 3) (bind2 (vF 5) (cF (.int 1)) subD) ixD) modD) (cF (.int 0)) neD))))) (retF (cF (.bl false))) nxF) (seqF (setF 4 (bind2 (vF 4) (vF 6) mulD)) (ifF (bT (bind2 (vF 4) (callF (consD (vF 2) (consD (vF 1) (consD (bind2 (vF 5) (cF (.int 1)) addD) nilF))) F__law_common) neD)) (retF (cF (.bl false))) nxF))) (enumFrom pre.length (t.map D.int)) [some (.fro (ns.map D.int)),some (.int (w:Int)),some (lotD L),some (rowD gs),some (.int (La.prod pre)),x5,x6]=some (.nx [some (.fro (ns.map D.int)),some (.int (w:Int)),some (lotD L),some (rowD gs),some (.int (La.prod gs)),x5',x6']):=by
    intro t
    induction t with
    | nil=>intro pre x5 x6 e;rw [List.append_nil] at e;subst e;exact ⟨x5,x6,rfl⟩
    | cons a t ih =>
      intro pre x5 x6 e
      obtain ⟨x5',x6',e'⟩:=ih (pre++[a]) (some (.int (pre.length:Int))) (some (.int a)) (by rw [e,List.append_assoc];rfl)
      refine ⟨x5',x6',?_⟩
      have hpre:pre.length<gs.length:=by rw [e];simp
      have ha:a∈gs:=by rw [e];simp
      have hpa:=gG.pos a ha
      have hat:La.at' gs pre.length=a:=by rw [e];simp [La.at',List.getD]
      have htake:gs.take (pre.length+1)=pre++[a]:=by rw [e,show pre++a::t=(pre++[a])++t by simp];exact List.take_left' (by simp)
      have hpp:La.prod (pre++[a])=La.prod pre*a:=by rw [La.prod_app];simp [La.prod]
      rw [List.map_cons]
      unfold enumFrom forD
      have b1:bindP 5 6 (D.tup [.int (pre.length:Int),.int a]) [some (.fro (ns.map D.int)),some (.int (w:Int)),some (lotD L),some (rowD gs),some (.int (La.prod pre)),x5,x6]=some [some (.fro (ns.map D.int)),some (.int (w:Int)),some (lotD L),some (rowD gs),some (.int (La.prod pre)),some (.int (pre.length:Int)),some (.int a)]:=rfl
      have t1:orT (notT (truT (callF (consD (vF 6) nilF) F__law_whole))) (orT (bT (bind2 (vF 6) (cF (.int 1)) ltD)) (andT (bT (bind2 (vF 5) (cF (.int 0)) gtD)) (bT (bind2 (bind2 (vF 6) (bind2 (vF 3) (bind2 (vF 5) (cF (.int 1)) subD) ixD) modD) (cF (.int 0)) neD)))) [some (.fro (ns.map D.int)),some (.int (w:Int)),some (lotD L),some (rowD gs),some (.int (La.prod pre)),some (.int (pre.length:Int)),some (.int a)]=some false:=by
        refine orT_ff ?_ (orT_ff (bT_eq ((bind2_eq (x:=.int a) (y:=.int 1) rfl rfl).trans (by show some (D.bl (decide (a<1)))=_;rw [decide_eq_false (by omega)]))) ?_)
        · have e1:callF (consD (vF 6) nilF) F__law_whole [some (.fro (ns.map D.int)),some (.int (w:Int)),some (lotD L),some (rowD gs),some (.int (La.prod pre)),some (.int (pre.length:Int)),some (.int a)]=some (.bl true):=(callF_eq (consD_eq rfl rfl)).trans (F_whole_int a)
          simp only [notT,truT,e1]
          rfl
        · by_cases h0:pre.length=0
          · unfold andT
            rw [bT_eq (b:=false) ((bind2_eq (x:=.int (pre.length:Int)) (y:=.int 0) rfl rfl).trans (by show some (D.bl (decide ((0:Int)<(pre.length:Int))))=_;rw [decide_eq_false (by omega)]))]
            rfl
          · refine andT_t (b:=false) (bT_eq ((bind2_eq (x:=.int (pre.length:Int)) (y:=.int 0) rfl rfl).trans (by show some (D.bl (decide ((0:Int)<(pre.length:Int))))=_;rw [decide_eq_true (by omega)]))) ?_
            have hlt:pre.length-1<gs.length:=by omega
            have hdv:=chain_at gG.chain (s:=pre.length-1) (t:=pre.length) (by omega) hpre
            have hq:0<La.at' gs (pre.length-1):=gG.pos _ (by simp [La.at',List.getD,List.getElem?_eq_getElem hlt])
            have ei:bind2 (vF 3) (bind2 (vF 5) (cF (.int 1)) subD) ixD [some (.fro (ns.map D.int)),some (.int (w:Int)),some (lotD L),some (rowD gs),some (.int (La.prod pre)),some (.int (pre.length:Int)),some (.int a)]=some (.int (La.at' gs (pre.length-1))):=by
              refine (bind2_eq rfl (y:=.int ((pre.length-1:Nat):Int)) ((bind2_eq rfl rfl).trans (?_:some (D.int ((pre.length:Int)-1))=_))).trans (ixD_row hlt)
              congr 2
              omega
            refine bT_eq ((bind2_eq ((bind2_eq rfl ei).trans (modD_int (by omega))) rfl).trans ?_)
            rw [ne0]
            rw [hat] at hdv
            rw [Int.fmod_eq_zero_of_dvd hdv]
            rfl
      have s1:setF 4 (bind2 (vF 4) (vF 6) mulD) [some (.fro (ns.map D.int)),some (.int (w:Int)),some (lotD L),some (rowD gs),some (.int (La.prod pre)),some (.int (pre.length:Int)),some (.int a)]=some (.nx [some (.fro (ns.map D.int)),some (.int (w:Int)),some (lotD L),some (rowD gs),some (.int (La.prod (pre++[a]))),some (.int (pre.length:Int)),some (.int a)]):=by
        rw [hpp]
        exact (setF_nx ((bind2_eq rfl rfl).trans (mulD_int (okMul_r (gb a ha).1 (gb a ha).2)))).trans rfl
      have s2:ifF (bT (bind2 (vF 4) (callF (consD (vF 2) (consD (vF 1) (consD (bind2 (vF 5) (cF (.int 1)) addD) nilF))) F__law_common) neD)) (retF (cF (.bl false))) nxF [some (.fro (ns.map D.int)),some (.int (w:Int)),some (lotD L),some (rowD gs),some (.int (La.prod (pre++[a]))),some (.int (pre.length:Int)),some (.int a)]=some (.nx [some (.fro (ns.map D.int)),some (.int (w:Int)),some (lotD L),some (rowD gs),some (.int (La.prod (pre++[a]))),some (.int (pre.length:Int)),some (.int a)]):=by
        have ec:=com (pre.length+1) (by omega) (by omega)
        rw [htake] at ec
        exact (ifF_f (bT_eq ((bind2_eq rfl (call3 rfl rfl (z:=.int ((pre.length+1:Nat):Int)) rfl ec)).trans (neq _)))).trans rfl
      rw [b1,Option.bind_some,(skip_if t1).trans ((seqF_nx s1).trans s2),Option.bind_some]
      rw [show (pre++[a]).length=pre.length+1 by simp] at e'
      exact e'
  obtain ⟨x5,x6,el⟩:=loop gs [] none none rfl
  have it:fsF (consD (vF 3) nilF) enumD [some (.fro (ns.map D.int)),some (.int (w:Int)),some (lotD L),some (rowD gs),some (.int 1),none,none]=some (enumFrom 0 (gs.map D.int)):=rfl
  refine (seqF_nx (forF_nx it el)).trans (retF_rt ?_)
  have eC:callF (consD (vF 2) (consD (vF 1) (consD (bind2 (callF (consD (vF 3) nilF) lenD) (cF (.int 1)) addD) nilF))) F__law_common [some (.fro (ns.map D.int)),some (.int (w:Int)),some (lotD L),some (rowD gs),some (.int (La.prod gs)),x5,x6]=some (.int (comN (L.map La.fv) L.length w (P.length+1):Int)):=by
    refine call3 rfl rfl (z:=.int ((P.length+1:Nat):Int)) ((bind2_eq ((callF_eq (consD_eq rfl rfl)).trans (len_row gs)) rfl).trans ?_) comL
    rw [glen];rfl
  have eM:bind2 (callF (consD (vF 3) nilF) lenD) (callF (consD (vF 1) (consD (callF (consD (vF 2) nilF) lenD) nilF)) minD) eqD [some (.fro (ns.map D.int)),some (.int (w:Int)),some (lotD L),some (rowD gs),some (.int (La.prod gs)),x5,x6]=some (.bl (decide (P.length=min w L.length))):=by
    refine (bind2_eq (x:=.int (P.length:Int)) (y:=.int ((min w L.length:Nat):Int)) (((callF_eq (consD_eq rfl rfl)).trans (len_row gs)).trans (by rw [glen])) ((call2 rfl ((callF_eq (consD_eq rfl rfl)).trans (len_lot L)) (?_:some (D.int (if (L.length:Int)<(w:Int) then (L.length:Int) else (w:Int)))=_)))).trans ?_
    · congr 2
      split<;>omega
    · show some (D.bl ((P.length:Int)==((min w L.length:Nat):Int)))=_
      congr 2
      rw [Bool.eq_iff_iff,beq_iff_eq,decide_eq_true_iff]
      omega
  have eZ:bind2 (callF (consD (vF 2) (consD (vF 1) (consD (bind2 (callF (consD (vF 3) nilF) lenD) (cF (.int 1)) addD) nilF))) F__law_common) (cF (.int 0)) eqD [some (.fro (ns.map D.int)),some (.int (w:Int)),some (lotD L),some (rowD gs),some (.int (La.prod gs)),x5,x6]=some (.bl ((comN (L.map La.fv) L.length w (P.length+1):Int)==0)):=(bind2_eq eC rfl).trans (eq0 _)
  unfold orD
  rw [eZ,eM]
  show (some ((comN (L.map La.fv) L.length w (P.length+1):Int)==0)).bind _=_
  rw [Option.bind_some]
  by_cases hm:P.length=min w L.length
  · rw [decide_eq_true hm]
    split<;>rfl
  · have hz:=com_zero (P:=P.map La.fv) (V:=L.map La.fv) (w:=w) iP.eqv (by omega) hw3 (by rw [List.length_map];omega) oL
    rw [List.length_map,List.length_map] at hz
    rw [hz]
    rfl
theorem all_mk {l:PySem.W.OpenLaw} {w:World} {K:PySem.W.Frag} {h:Heap} {mg:Str→Option Value} {fa f0 f1 f2 f3 f4 f5 f6 f7 f8 f9 f10 f11 f12 f13 f14 f15 f16 f17 f18 f19 f20 f21 f22 f23:Addr} (X:K.In h) (G:h.Ns mainGlobals mg) (hfa:mg "law" = some (.ref fa)) (htree:l.prog.given.tree=none)
    {od0 an0 od1 an1 od2 an2 od3 an3 od4 an4 od5 an5 od6 an6 od7 an7 od8 an8 od9 an9 od10 an10 od11 an11 od12 an12 od13 an13 od14 an14 od15 an15 od16 an16 od17 an17 od18 an18 od19 an19 od20 an20 od21 an21 od22 an22 od23 an23:Option Addr} {sl0 sl1 sl2 sl3 sl4 sl5 sl6 sl7 sl8 sl9 sl10 sl11 sl12 sl13 sl14 sl15 sl16 sl17 sl18 sl19 sl20 sl21 sl22 sl23:Array (Option Value)} {oc0 kV0 dc0 pm0 cd0 ct0 oc1 kV1 dc1 pm1 cd1 ct1 oc2 kV2 dc2 pm2 cd2 ct2 oc3 kV3 dc3 pm3 cd3 ct3 oc4 kV4 dc4 pm4 cd4 ct4 oc5 kV5 dc5 pm5 cd5 ct5 oc6 kV6 dc6 pm6 cd6 ct6 oc7 kV7 dc7 pm7 cd7 ct7 oc8 kV8 dc8 pm8 cd8 ct8 oc9 kV9 dc9 pm9 cd9 ct9 oc10 kV10 dc10 pm10 cd10 ct10 oc11 kV11 dc11 pm11 cd11 ct11 oc12 kV12 dc12 pm12 cd12 ct12 oc13 kV13 dc13 pm13 cd13 ct13 oc14 kV14 dc14 pm14 cd14 ct14 oc15 kV15 dc15 pm15 cd15 ct15 oc16 kV16 dc16 pm16 cd16 ct16 oc17 kV17 dc17 pm17 cd17 ct17 oc18 kV18 dc18 pm18 cd18 ct18 oc19 kV19 dc19 pm19 cd19 ct19 oc20 kV20 dc20 pm20 cd20 ct20 oc21 kV21 dc21 pm21 cd21 ct21 oc22 kV22 dc22 pm22 cd22 ct22 oc23 kV23 dc23 pm23 cd23 ct23:Value} {cA_gathered pA_gathered:Addr} {ocA_gathered:Value} {odA_gathered:Option Addr} {slA_gathered:Array (Option Value)} {vsA_gathered:Array Value}
    (a0:PySem.W.nsIn K mainGlobals "lead_place" = some (some (.ref f0))) (l0:K.lookup f0=some ⟨oc0,od0,.func (PySem.W.fnOf "lead_place" "lead_place" (defArgs s_lead_place) (defBody s_lead_place) (defScope s_lead_place) .none kV0 dc0 pm0 an0 cd0 ct0),sl0⟩) (q0:PySem.W.codeIn K cd0 "lead_place" = true) (k0:PySem.W.keepIn K (.ref f0)=true)
    (a1:PySem.W.nsIn K mainGlobals "column" = some (some (.ref f1))) (l1:K.lookup f1=some ⟨oc1,od1,.func (PySem.W.fnOf "column" "column" (defArgs s_column) (defBody s_column) (defScope s_column) .none kV1 dc1 pm1 an1 cd1 ct1),sl1⟩) (q1:PySem.W.codeIn K cd1 "column" = true) (k1:PySem.W.keepIn K (.ref f1)=true)
    (a2:PySem.W.nsIn K mainGlobals "upright" = some (some (.ref f2))) (l2:K.lookup f2=some ⟨oc2,od2,.func (PySem.W.fnOf "upright" "upright" (defArgs s_upright) (defBody s_upright) (defScope s_upright) .none kV2 dc2 pm2 an2 cd2 ct2),sl2⟩) (q2:PySem.W.codeIn K cd2 "upright" = true) (k2:PySem.W.keepIn K (.ref f2)=true)
    (a3:PySem.W.nsIn K mainGlobals "common_divisor" = some (some (.ref f3))) (l3:K.lookup f3=some ⟨oc3,od3,.func (PySem.W.fnOf "common_divisor" "common_divisor" (defArgs s_common_divisor) (defBody s_common_divisor) (defScope s_common_divisor) .none kV3 dc3 pm3 an3 cd3 ct3),sl3⟩) (q3:PySem.W.codeIn K cd3 "common_divisor" = true) (k3:PySem.W.keepIn K (.ref f3)=true)
    (a4:PySem.W.nsIn K mainGlobals "less" = some (some (.ref f4))) (l4:K.lookup f4=some ⟨oc4,od4,.func (PySem.W.fnOf "less" "less" (defArgs s_less) (defBody s_less) (defScope s_less) .none kV4 dc4 pm4 an4 cd4 ct4),sl4⟩) (q4:PySem.W.codeIn K cd4 "less" = true) (k4:PySem.W.keepIn K (.ref f4)=true)
    (a5:PySem.W.nsIn K mainGlobals "lowered" = some (some (.ref f5))) (l5:K.lookup f5=some ⟨oc5,od5,.func (PySem.W.fnOf "lowered" "lowered" (defArgs s_lowered) (defBody s_lowered) (defScope s_lowered) .none kV5 dc5 pm5 an5 cd5 ct5),sl5⟩) (q5:PySem.W.codeIn K cd5 "lowered" = true) (k5:PySem.W.keepIn K (.ref f5)=true)
    (a6:PySem.W.nsIn K mainGlobals "gathered" = some (some (.ref f6))) (l6:K.lookup f6=some ⟨oc6,od6,.func (PySem.W.fnOf "gathered" "gathered" (defArgs s_gathered) (defBody s_gathered) (defScope s_gathered) .none kV6 dc6 pm6 an6 cd6 ct6),sl6⟩) (q6:PySem.W.codeIn K cd6 "gathered" = true) (k6:PySem.W.keepIn K (.ref f6)=true)
    (a7:PySem.W.nsIn K mainGlobals "stacked" = some (some (.ref f7))) (l7:K.lookup f7=some ⟨oc7,od7,.func (PySem.W.fnOf "stacked" "stacked" (defArgs s_stacked) (defBody s_stacked) (defScope s_stacked) .none kV7 dc7 pm7 an7 cd7 ct7),sl7⟩) (q7:PySem.W.codeIn K cd7 "stacked" = true) (k7:PySem.W.keepIn K (.ref f7)=true)
    (a8:PySem.W.nsIn K mainGlobals "plain" = some (some (.ref f8))) (l8:K.lookup f8=some ⟨oc8,od8,.func (PySem.W.fnOf "plain" "plain" (defArgs s_plain) (defBody s_plain) (defScope s_plain) .none kV8 dc8 pm8 an8 cd8 ct8),sl8⟩) (q8:PySem.W.codeIn K cd8 "plain" = true) (k8:PySem.W.keepIn K (.ref f8)=true)
    (a9:PySem.W.nsIn K mainGlobals "leads" = some (some (.ref f9))) (l9:K.lookup f9=some ⟨oc9,od9,.func (PySem.W.fnOf "leads" "leads" (defArgs s_leads) (defBody s_leads) (defScope s_leads) .none kV9 dc9 pm9 an9 cd9 ct9),sl9⟩) (q9:PySem.W.codeIn K cd9 "leads" = true) (k9:PySem.W.keepIn K (.ref f9)=true)
    (a10:PySem.W.nsIn K mainGlobals "has_lead_alone" = some (some (.ref f10))) (l10:K.lookup f10=some ⟨oc10,od10,.func (PySem.W.fnOf "has_lead_alone" "has_lead_alone" (defArgs s_has_lead_alone) (defBody s_has_lead_alone) (defScope s_has_lead_alone) .none kV10 dc10 pm10 an10 cd10 ct10),sl10⟩) (q10:PySem.W.codeIn K cd10 "has_lead_alone" = true) (k10:PySem.W.keepIn K (.ref f10)=true)
    (a11:PySem.W.nsIn K mainGlobals "chained" = some (some (.ref f11))) (l11:K.lookup f11=some ⟨oc11,od11,.func (PySem.W.fnOf "chained" "chained" (defArgs s_chained) (defBody s_chained) (defScope s_chained) .none kV11 dc11 pm11 an11 cd11 ct11),sl11⟩) (q11:PySem.W.codeIn K cd11 "chained" = true) (k11:PySem.W.keepIn K (.ref f11)=true)
    (a12:PySem.W.nsIn K mainGlobals "grades" = some (some (.ref f12))) (l12:K.lookup f12=some ⟨oc12,od12,.func (PySem.W.fnOf "grades" "grades" (defArgs s_grades) (defBody s_grades) (defScope s_grades) .none kV12 dc12 pm12 an12 cd12 ct12),sl12⟩) (q12:PySem.W.codeIn K cd12 "grades" = true) (k12:PySem.W.keepIn K (.ref f12)=true)
    (a13:PySem.W.nsIn K mainGlobals "_law_cell" = some (some (.ref f13))) (l13:K.lookup f13=some ⟨oc13,od13,.func (PySem.W.fnOf "_law_cell" "_law_cell" (defArgs s__law_cell) (defBody s__law_cell) (defScope s__law_cell) .none kV13 dc13 pm13 an13 cd13 ct13),sl13⟩) (q13:PySem.W.codeIn K cd13 "_law_cell" = true) (k13:PySem.W.keepIn K (.ref f13)=true)
    (a14:PySem.W.nsIn K mainGlobals "_law_mix" = some (some (.ref f14))) (l14:K.lookup f14=some ⟨oc14,od14,.func (PySem.W.fnOf "_law_mix" "_law_mix" (defArgs s__law_mix) (defBody s__law_mix) (defScope s__law_mix) .none kV14 dc14 pm14 an14 cd14 ct14),sl14⟩) (q14:PySem.W.codeIn K cd14 "_law_mix" = true) (k14:PySem.W.keepIn K (.ref f14)=true)
    (a15:PySem.W.nsIn K mainGlobals "_law_row" = some (some (.ref f15))) (l15:K.lookup f15=some ⟨oc15,od15,.func (PySem.W.fnOf "_law_row" "_law_row" (defArgs s__law_row) (defBody s__law_row) (defScope s__law_row) .none kV15 dc15 pm15 an15 cd15 ct15),sl15⟩) (q15:PySem.W.codeIn K cd15 "_law_row" = true) (k15:PySem.W.keepIn K (.ref f15)=true)
    (a16:PySem.W.nsIn K mainGlobals "_law_sum" = some (some (.ref f16))) (l16:K.lookup f16=some ⟨oc16,od16,.func (PySem.W.fnOf "_law_sum" "_law_sum" (defArgs s__law_sum) (defBody s__law_sum) (defScope s__law_sum) .none kV16 dc16 pm16 an16 cd16 ct16),sl16⟩) (q16:PySem.W.codeIn K cd16 "_law_sum" = true) (k16:PySem.W.keepIn K (.ref f16)=true)
    (a17:PySem.W.nsIn K mainGlobals "_law_wide" = some (some (.ref f17))) (l17:K.lookup f17=some ⟨oc17,od17,.func (PySem.W.fnOf "_law_wide" "_law_wide" (defArgs s__law_wide) (defBody s__law_wide) (defScope s__law_wide) .none kV17 dc17 pm17 an17 cd17 ct17),sl17⟩) (q17:PySem.W.codeIn K cd17 "_law_wide" = true) (k17:PySem.W.keepIn K (.ref f17)=true)
    (a18:PySem.W.nsIn K mainGlobals "_law_lot" = some (some (.ref f18))) (l18:K.lookup f18=some ⟨oc18,od18,.func (PySem.W.fnOf "_law_lot" "_law_lot" (defArgs s__law_lot) (defBody s__law_lot) (defScope s__law_lot) .none kV18 dc18 pm18 an18 cd18 ct18),sl18⟩) (q18:PySem.W.codeIn K cd18 "_law_lot" = true) (k18:PySem.W.keepIn K (.ref f18)=true)
    (a19:PySem.W.nsIn K mainGlobals "_law_whole" = some (some (.ref f19))) (l19:K.lookup f19=some ⟨oc19,od19,.func (PySem.W.fnOf "_law_whole" "_law_whole" (defArgs s__law_whole) (defBody s__law_whole) (defScope s__law_whole) .none kV19 dc19 pm19 an19 cd19 ct19),sl19⟩) (q19:PySem.W.codeIn K cd19 "_law_whole" = true) (k19:PySem.W.keepIn K (.ref f19)=true)
    (a20:PySem.W.nsIn K mainGlobals "_law_mixed" = some (some (.ref f20))) (l20:K.lookup f20=some ⟨oc20,od20,.func (PySem.W.fnOf "_law_mixed" "_law_mixed" (defArgs s__law_mixed) (defBody s__law_mixed) (defScope s__law_mixed) .none kV20 dc20 pm20 an20 cd20 ct20),sl20⟩) (q20:PySem.W.codeIn K cd20 "_law_mixed" = true) (k20:PySem.W.keepIn K (.ref f20)=true)
    (a21:PySem.W.nsIn K mainGlobals "_law_some" = some (some (.ref f21))) (l21:K.lookup f21=some ⟨oc21,od21,.func (PySem.W.fnOf "_law_some" "_law_some" (defArgs s__law_some) (defBody s__law_some) (defScope s__law_some) .none kV21 dc21 pm21 an21 cd21 ct21),sl21⟩) (q21:PySem.W.codeIn K cd21 "_law_some" = true) (k21:PySem.W.keepIn K (.ref f21)=true)
    (a22:PySem.W.nsIn K mainGlobals "_law_common" = some (some (.ref f22))) (l22:K.lookup f22=some ⟨oc22,od22,.func (PySem.W.fnOf "_law_common" "_law_common" (defArgs s__law_common) (defBody s__law_common) (defScope s__law_common) .none kV22 dc22 pm22 an22 cd22 ct22),sl22⟩) (q22:PySem.W.codeIn K cd22 "_law_common" = true) (k22:PySem.W.keepIn K (.ref f22)=true)
    (a23:PySem.W.nsIn K mainGlobals "law" = some (some (.ref f23))) (l23:K.lookup f23=some ⟨oc23,od23,.func (PySem.W.fnOf "law" "law" (defArgs s_law) (defBody s_law) (defScope s_law) .none kV23 dc23 pm23 an23 cd23 ct23),sl23⟩) (q23:PySem.W.codeIn K cd23 "law" = true) (k23:PySem.W.keepIn K (.ref f23)=true)
    (hc_gathered:cd6 = .ref cA_gathered) (lc_gathered:K.lookup cA_gathered=some ⟨ocA_gathered,odA_gathered,.fields vsA_gathered,slA_gathered⟩) (hv_gathered:vsA_gathered[11]? = some (.ref pA_gathered))
    (z_abs:PySem.W.nsIn K mainGlobals "abs" = some none)
    (z_all:PySem.W.nsIn K mainGlobals "all" = some none)
    (z_bool:PySem.W.nsIn K mainGlobals "bool" = some none)
    (z_enumerate:PySem.W.nsIn K mainGlobals "enumerate" = some none)
    (z_int:PySem.W.nsIn K mainGlobals "int" = some none)
    (z_isinstance:PySem.W.nsIn K mainGlobals "isinstance" = some none)
    (z_len:PySem.W.nsIn K mainGlobals "len" = some none)
    (z_list:PySem.W.nsIn K mainGlobals "list" = some none)
    (z_min:PySem.W.nsIn K mainGlobals "min" = some none)
    (z_range:PySem.W.nsIn K mainGlobals "range" = some none)
    (z_sorted:PySem.W.nsIn K mainGlobals "sorted" = some none)
    (z_tuple:PySem.W.nsIn K mainGlobals "tuple" = some none)
    (z_zip:PySem.W.nsIn K mainGlobals "zip" = some none)
    : ∃ fd:FuncData,(∀ (s:Shared) (v:Value),BindsTo s fd ⟨[v],[]⟩ [("_law_script", v)])∧∀ base:Heap,K.In base→base.Ns mainGlobals mg→FnOk l.prog w K mg base CX0 8 fa fd ["_law_script"] (spD K F_law):=by
  have e:=hfa.symm.trans (PySem.W.mg_of X G a23)
  cases e
  have B:Bl l.prog mg:=⟨htree,PySem.W.mg_none_of X G z_abs,PySem.W.mg_none_of X G z_all,PySem.W.mg_none_of X G z_bool,PySem.W.mg_none_of X G z_enumerate,PySem.W.mg_none_of X G z_int,PySem.W.mg_none_of X G z_isinstance,PySem.W.mg_none_of X G z_len,PySem.W.mg_none_of X G z_list,PySem.W.mg_none_of X G z_min,PySem.W.mg_none_of X G z_range,PySem.W.mg_none_of X G z_sorted,PySem.W.mg_none_of X G z_tuple,PySem.W.mg_none_of X G z_zip⟩
  refine ⟨PySem.W.fnOf "law" "law" (defArgs s_law) (defBody s_law) (defScope s_law) .none kV23 dc23 pm23 an23 cd23 ct23,fun s v=>.of_eq rfl,fun base _ _=>?_⟩
  have h_lead_place:=ok_lead_place (P:=l.prog) (w:=w) (base:=base) B (fun_mk (st:=s_lead_place) l0 q0 k0) (PySem.W.mg_of X G a0)
  have h_column:=ok_column (P:=l.prog) (w:=w) (base:=base) B (fun_mk (st:=s_column) l1 q1 k1) (PySem.W.mg_of X G a1)
  have h_upright:=ok_upright (P:=l.prog) (w:=w) (base:=base) B (fun_mk (st:=s_upright) l2 q2 k2) (PySem.W.mg_of X G a2) (h_column.mono (by decide))
  have h_common_divisor:=ok_common_divisor (P:=l.prog) (w:=w) (base:=base) B (fun_mk (st:=s_common_divisor) l3 q3 k3) (PySem.W.mg_of X G a3)
  have h_less:=ok_less (P:=l.prog) (w:=w) (base:=base) B (fun_mk (st:=s_less) l4 q4 k4) (PySem.W.mg_of X G a4)
  have h_lowered:=ok_lowered (P:=l.prog) (w:=w) (base:=base) B (fun_mk (st:=s_lowered) l5 q5 k5) (PySem.W.mg_of X G a5) (h_less.mono (by decide))
  have h_gathered:=ok_gathered (P:=l.prog) (w:=w) (base:=base) B (fun_mk (st:=s_gathered) l6 q6 k6) (PySem.W.mg_of X G a6) hc_gathered (tab_mk a6 l6 hc_gathered lc_gathered hv_gathered) (h_lowered.mono (by decide))
  have h_stacked:=ok_stacked (P:=l.prog) (w:=w) (base:=base) B (fun_mk (st:=s_stacked) l7 q7 k7) (PySem.W.mg_of X G a7) (h_lowered.mono (by decide))
  have hr_plain:=ok_plain (P:=l.prog) (w:=w) (base:=base) B (fun_mk (st:=s_plain) l8 q8 k8) (PySem.W.mg_of X G a8) (h_gathered.mono (by decide)) (h_stacked.mono (by decide))
  have h_plain:=hr_plain.fn lift_plain
  have h_leads:=ok_leads (P:=l.prog) (w:=w) (base:=base) B (fun_mk (st:=s_leads) l9 q9 k9) (PySem.W.mg_of X G a9) (h_lead_place.mono (by decide))
  have h_has_lead_alone:=ok_has_lead_alone (P:=l.prog) (w:=w) (base:=base) B (fun_mk (st:=s_has_lead_alone) l10 q10 k10) (PySem.W.mg_of X G a10) (h_lead_place.mono (by decide))
  have h_chained:=ok_chained (P:=l.prog) (w:=w) (base:=base) B (fun_mk (st:=s_chained) l11 q11 k11) (PySem.W.mg_of X G a11) (h_common_divisor.mono (by decide))
  have h_grades:=ok_grades (P:=l.prog) (w:=w) (base:=base) B (fun_mk (st:=s_grades) l12 q12 k12) (PySem.W.mg_of X G a12) (h_upright.mono (by decide)) (h_plain.mono (by decide)) (h_leads.mono (by decide)) (h_has_lead_alone.mono (by decide)) (h_chained.mono (by decide))
  have h__law_cell:=ok__law_cell (P:=l.prog) (w:=w) (base:=base) B (fun_mk (st:=s__law_cell) l13 q13 k13) (PySem.W.mg_of X G a13)
  have h__law_mix:=ok__law_mix (P:=l.prog) (w:=w) (base:=base) B (fun_mk (st:=s__law_mix) l14 q14 k14) (PySem.W.mg_of X G a14)
  have h__law_row:=ok__law_row (P:=l.prog) (w:=w) (base:=base) B (fun_mk (st:=s__law_row) l15 q15 k15) (PySem.W.mg_of X G a15) (h__law_mix.mono (by decide))
  have h__law_sum:=ok__law_sum (P:=l.prog) (w:=w) (base:=base) B (fun_mk (st:=s__law_sum) l16 q16 k16) (PySem.W.mg_of X G a16)
  have h__law_wide:=ok__law_wide (P:=l.prog) (w:=w) (base:=base) B (fun_mk (st:=s__law_wide) l17 q17 k17) (PySem.W.mg_of X G a17) (h__law_cell.mono (by decide)) (h__law_mix.mono (by decide))
  have h__law_lot:=ok__law_lot (P:=l.prog) (w:=w) (base:=base) B (fun_mk (st:=s__law_lot) l18 q18 k18) (PySem.W.mg_of X G a18) (h__law_cell.mono (by decide)) (h__law_mix.mono (by decide)) (h__law_row.mono (by decide)) (h__law_sum.mono (by decide))
  have h__law_whole:=ok__law_whole (P:=l.prog) (w:=w) (base:=base) B (fun_mk (st:=s__law_whole) l19 q19 k19) (PySem.W.mg_of X G a19)
  have h__law_mixed:=ok__law_mixed (P:=l.prog) (w:=w) (base:=base) B (fun_mk (st:=s__law_mixed) l20 q20 k20) (PySem.W.mg_of X G a20)
  have h__law_some:=ok__law_some (P:=l.prog) (w:=w) (base:=base) B (fun_mk (st:=s__law_some) l21 q21 k21) (PySem.W.mg_of X G a21)
  have h__law_common:=ok__law_common (P:=l.prog) (w:=w) (base:=base) B (fun_mk (st:=s__law_common) l22 q22 k22) (PySem.W.mg_of X G a22) (h__law_mixed.mono (by decide)) (h__law_some.mono (by decide))
  exact ok_law (P:=l.prog) (w:=w) (base:=base) B (fun_mk (st:=s_law) l23 q23 k23) (h_plain.mono (by decide)) (h_grades.mono (by decide)) (h__law_wide.mono (by decide)) (h__law_lot.mono (by decide)) (h__law_whole.mono (by decide)) (h__law_common.mono (by decide))
end L2.k15
open PySem PySem.W PyProof.Rows
set_option maxRecDepth 100000 in
set_option maxHeartbeats 0 in
theorem PySem.Challenge.cw_rowwright_k15_grades_holds : PySem.Challenge.rw_rowwright_k15_grades.Holds := by
  w_on;o_law;k_head;(case hw=>w_witness2)
  k_fill
  refine L2.walk_ofK (l:=PySem.Challenge.rw_rowwright_k15_grades) (n:=63) (k:=8) (x := "_law_script") (CX:=L2.CX0) (sp:=fun K=>L2.spD K L2.k15.F_law) rfl (by decide) rfl ⟨rfl,by decide,by decide⟩ ?rwI (fun w h Y=>PySem.W.km_in_of Y) ?rwR ?rwN ?rwT ?F (fun K H a ns hl hT hS=>L2.script_D hT hS (L2.k15.law_true ns hl)) (fun _ _ _ _ z=>z)
  case rwI=>decide +kernel
  case rwR=>intro x hx;simp only [L2.lamDefs,List.mem_cons,List.not_mem_nil,or_false] at hx;subst hx;exact .inr (by decide +kernel)
  case rwN=>exact fun w=>rfl
  case rwT=>intro w x hx c P e;simp only [L2.lamDefs,List.mem_cons,List.not_mem_nil,or_false] at hx;subst hx;simp [L2.Htab,L2.lamDefs,e]
  case F =>
    intro w mg fa h KX G hmg
    refine' L2.k15.all_mk KX G hmg rfl ?a0 ?l0 ?q0 ?k0 ?a1 ?l1 ?q1 ?k1 ?a2 ?l2 ?q2 ?k2 ?a3 ?l3 ?q3 ?k3 ?a4 ?l4 ?q4 ?k4 ?a5 ?l5 ?q5 ?k5 ?a6 ?l6 ?q6 ?k6 ?a7 ?l7 ?q7 ?k7 ?a8 ?l8 ?q8 ?k8 ?a9 ?l9 ?q9 ?k9 ?a10 ?l10 ?q10 ?k10 ?a11 ?l11 ?q11 ?k11 ?a12 ?l12 ?q12 ?k12 ?a13 ?l13 ?q13 ?k13 ?a14 ?l14 ?q14 ?k14 ?a15 ?l15 ?q15 ?k15 ?a16 ?l16 ?q16 ?k16 ?a17 ?l17 ?q17 ?k17 ?a18 ?l18 ?q18 ?k18 ?a19 ?l19 ?q19 ?k19 ?a20 ?l20 ?q20 ?k20 ?a21 ?l21 ?q21 ?k21 ?a22 ?l22 ?q22 ?k22 ?a23 ?l23 ?q23 ?k23 ?hc_gathered ?lc_gathered ?hv_gathered ?z_abs ?z_all ?z_bool ?z_enumerate ?z_int ?z_isinstance ?z_len ?z_list ?z_min ?z_range ?z_sorted ?z_tuple ?z_zip
    (case a0=>k_is);(case l0=>k_is);(case q0=>k_is);(case k0=>k_is)
    (case a1=>k_is);(case l1=>k_is);(case q1=>k_is);(case k1=>k_is)
    (case a2=>k_is);(case l2=>k_is);(case q2=>k_is);(case k2=>k_is)
    (case a3=>k_is);(case l3=>k_is);(case q3=>k_is);(case k3=>k_is)
    (case a4=>k_is);(case l4=>k_is);(case q4=>k_is);(case k4=>k_is)
    (case a5=>k_is);(case l5=>k_is);(case q5=>k_is);(case k5=>k_is)
    (case a6=>k_is);(case l6=>k_is);(case q6=>k_is);(case k6=>k_is)
    (case a7=>k_is);(case l7=>k_is);(case q7=>k_is);(case k7=>k_is)
    (case a8=>k_is);(case l8=>k_is);(case q8=>k_is);(case k8=>k_is)
    (case a9=>k_is);(case l9=>k_is);(case q9=>k_is);(case k9=>k_is)
    (case a10=>k_is);(case l10=>k_is);(case q10=>k_is);(case k10=>k_is)
    (case a11=>k_is);(case l11=>k_is);(case q11=>k_is);(case k11=>k_is)
    (case a12=>k_is);(case l12=>k_is);(case q12=>k_is);(case k12=>k_is)
    (case a13=>k_is);(case l13=>k_is);(case q13=>k_is);(case k13=>k_is)
    (case a14=>k_is);(case l14=>k_is);(case q14=>k_is);(case k14=>k_is)
    (case a15=>k_is);(case l15=>k_is);(case q15=>k_is);(case k15=>k_is)
    (case a16=>k_is);(case l16=>k_is);(case q16=>k_is);(case k16=>k_is)
    (case a17=>k_is);(case l17=>k_is);(case q17=>k_is);(case k17=>k_is)
    (case a18=>k_is);(case l18=>k_is);(case q18=>k_is);(case k18=>k_is)
    (case a19=>k_is);(case l19=>k_is);(case q19=>k_is);(case k19=>k_is)
    (case a20=>k_is);(case l20=>k_is);(case q20=>k_is);(case k20=>k_is)
    (case a21=>k_is);(case l21=>k_is);(case q21=>k_is);(case k21=>k_is)
    (case a22=>k_is);(case l22=>k_is);(case q22=>k_is);(case k22=>k_is)
    (case a23=>k_is);(case l23=>k_is);(case q23=>k_is);(case k23=>k_is)
    (case hc_gathered=>exact rfl);(case lc_gathered=>k_is);(case hv_gathered=>exact rfl)
    (case z_abs=>k_is);(case z_all=>k_is);(case z_bool=>k_is);(case z_enumerate=>k_is);(case z_int=>k_is);(case z_isinstance=>k_is);(case z_len=>k_is);(case z_list=>k_is);(case z_min=>k_is);(case z_range=>k_is);(case z_sorted=>k_is);(case z_tuple=>k_is);(case z_zip=>k_is)
