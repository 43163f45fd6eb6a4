import PyProof.Rows.All
import HandS.ForMost
import HandS.ForExc
import HandS.TryMany
import HandS.ExcInit
import HandS.Lambda
import HandS.IsInst
import KE.KDictKeyed
import HandS.TupAny
import HandS.TupMul
import HandS.Deep
import HandS.Codes
import PyProof.P3In
import HandS.EndTab
import HandS.Wide
import HandS.WideBits
import HandS.SortInts
import HandS.DictComp
import HandS.Small
import HandS.CallLocal
import HandS.Conv
import KE.GoesMore
import KE.GoesZip
import HandS.RevRange
import HandS.Rev
import KE.KDictDisplayH
import HandS.DictTup
import PyProof.FString3
import HandS.FStr
import HandS.StrMore
import HandS.HeadHook3
import HandS.SortKw
import PyProof.MinMaxWalk
import PyProof.WalkInts
import HandS.Style
import HandS.Gcd
import HandS.More
import PyProof.TypeEq
import PyProof.InstEq
import KE.KTypeOf
import HandS.OwnEq
import HandS.SetKeys
import PyProof.EqAt
import PyProof.P3Eq
import HandS.Strs
import PyProof.DictMoreH
import HandS.TupLen
import KE.KDictCopyH
import HandS.ListItems
import HandS.Sort
import HandS.TupSets
import KE.KDictZip
import HandS.Star
import HandS.OwnIter
import KE.KEqDict
import KE.DatumOrd
import HandS.RepeatKit
import HandS.Nested
import KE.SortCalls
import HandS.Text
import HandS.Iter
import Wide.All
import OpenK.AllK
import Wide.FinOn
import PyProof.EqKinds
import PyProof.TupleCall
import PySem.Challenge.RW_fivealike_k91_errors_of_texts
set_option Elab.async false
set_option linter.all false
set_option maxRecDepth 100000
set_option maxHeartbeats 4000000
namespace M
open PySem PySem.Spec PyProof.Rows L2

inductive PV where
  | non | bl (b : Bool) | int (i : Int) | str (s : Str)
  | tup (xs : List PV) | lst (xs : List PV) | ins (c : Nat) (ws : List PV) | dtt (ks : List (List L2.Key)) (ws : List PV)
  | dct (ks vs : List PV) | glo (k : Nat) | ref (i : Nat) | exn (c : Nat) (ws : List PV) | kst (xs : List PV) | lam (l : Nat) | opq | ftup (xs : List PV) | clo0 (l : Nat) | clo (l : Nat) (xs : List PV)
inductive MO where
  | lst (xs : List PV) | ins (c : Nat) (ws : List PV) | dct (ks vs : List PV) | dtt (ks : List (List L2.Key)) (ws : List PV) | dnn (ks ws : List PV)
noncomputable abbrev Mem := List MO
noncomputable abbrev Env := List (Option PV)
inductive Res (t : Type) where
  | ok (a : t) (m : Mem) | exc (c : Nat) (ws : List PV) (m : Mem) | bad
inductive SRes where
  | nx (e : Env) (m : Mem) | rt (v : PV) (m : Mem) | bk (e : Env) (m : Mem) | ct (e : Env) (m : Mem)
  | exc (c : Nat) (ws : List PV) (e : Env) (m : Mem) | bad
noncomputable abbrev ME := Env → Mem → Res PV
noncomputable abbrev MT := Env → Mem → Res Bool
noncomputable abbrev MA := Env → Mem → Res (List PV)
noncomputable abbrev MS := Env → Mem → SRes
noncomputable abbrev MF := List PV → Mem → Res PV

structure Tx where
  P : Program
  w : World
  K : PySem.W.Frag
  g : Nat → V
  cA : Nat → Addr
  cN : Nat → List Str
  /-- the exception that a suite holds, and its own dict -/
  ex : Option (Addr × Addr)
  /-- may tuples of the written part be met -/
  kt : Bool
  /-- tables of code objects -/
  tb : List (Addr × Str)
  /-- the functions that a lambda makes, by its code object -/
  lm : Nat → Addr → Addr → Option ((Heap → Prop) × Str) := fun _ _ _ => none
  /-- the same of lambdas that capture names, by what they captured; the names; the cells of the frame at hand -/
  lmc : Nat → List (Str × Addr) → Addr → Addr → Option ((Heap → Prop) × Str) := fun _ _ _ _ => none
  ln : Nat → List Str := fun _ => []
  fc : Str → Option Addr := fun _ => none

mutual
noncomputable def nkOf : PV → Option NestedKey
  | .non => some .none
  | .int i => some (.num i)
  | .str x => some (.text x)
  | .tup xs => (nksOf xs).map NestedKey.tup
  | _ => none
noncomputable def nksOf : List PV → Option (List NestedKey)
  | [] => some []
  | x :: xs => match nkOf x, nksOf xs with
    | some k, some ks => some (k :: ks)
    | _, _ => none
end
noncomputable def NDict (P : Program) (w : World) (a : Addr) (xs : List (NestedKey × Addr × Value)) (h : Heap) : Prop :=
  (a == sysModules) = false ∧ ∃ o es ep, h.get? a = some o ∧ o.ExactDict ∧ o.data = .dict es ep ∧ es.toList = xs.map (entryOfKey (nestedKind P w)) ∧ (xs.map (·.1)).Nodup
noncomputable def Kt (K : PySem.W.Frag) (a : Addr) (xs : List V) : Prop :=
  ∃ (o : Obj) (its : Array Value) (n : Nat), K.lookup a = some o ∧ o.cls = .type "tuple" ∧ o.data = .seq its n ∧ its.size ≤ sizeLine ∧ Vals xs its.toList
noncomputable def Kl (K : PySem.W.Frag) (a : Addr) (xs : List V) : Prop :=
  ∃ (o : Obj) (its : Array Value) (n : Nat), K.lookup a = some o ∧ o.cls = .type "list" ∧ o.dict = none ∧ o.data = .seq its n ∧ its.size ≤ sizeLine ∧ Vals xs its.toList
noncomputable def keyP : Key → PV
  | .inl i => .int i
  | .inr s => .str s
noncomputable def DK (H : Hp) (a : Addr) (ks : List PV) (ws : List V) : Prop :=
  (∃ kvs : List (Key × V), Rd H a (.dK kvs) ∧ ks = kvs.map (fun kv => keyP kv.1) ∧ ws = kvs.map (·.2)) ∨
    ∃ kvs : List (List Key × V), Rd H a (.dT kvs) ∧ ks = kvs.map (fun kv => PV.tup (kv.1.map keyP)) ∧ ws = kvs.map (·.2) ∧ kvs ≠ []
noncomputable def DM (H : Hp) (a : Addr) (ks : List PV) (ws : List V) : Prop :=
  (∃ kvs : List (Key × V), H a = some (.dK kvs) ∧ ks = kvs.map (fun kv => keyP kv.1) ∧ ws = kvs.map (·.2)) ∨
    ∃ kvs : List (List Key × V), H a = some (.dT kvs) ∧ ks = kvs.map (fun kv => PV.tup (kv.1.map keyP)) ∧ ws = kvs.map (·.2) ∧ kvs ≠ []
theorem DM.dk {H : Hp} {a : Addr} {ks : List PV} {ws : List V} (h : DM H a ks ws) : DK H a ks ws := by
  rcases h with ⟨kvs, h1, h2⟩ | ⟨kvs, h1, h2⟩
  · exact .inl ⟨kvs, .inl h1, h2⟩
  · exact .inr ⟨kvs, .inl h1, h2⟩
noncomputable def nTbl : HO → Prop
  | .tbl _ => False
  | _ => True
noncomputable def nTup : HO → Prop
  | .tup _ => False
  | .ext φ => ∀ c q, HO.ext φ ≠ LamX.CodeO c q
  | _ => True
theorem nTbl_ne {o : HO} (h : nTbl o) : ∀ ps, o ≠ .tbl ps := fun ps z => by subst z; exact h
theorem nTbl_of {o : HO} (h : ∀ ps, o ≠ .tbl ps) : nTbl o := by
  cases o <;> first | trivial | exact (h _ rfl).elim
noncomputable def Hard (H : Hp) (a : Addr) : Prop := ∃ o, H a = some o ∧ nTbl o
theorem soft {H : Hp} {a : Addr} (h : H a = none) : ¬ Hard H a := fun ⟨o, e, _⟩ => by rw [h] at e; cases e
noncomputable abbrev Av := Addr → Prop
noncomputable def Out (av : Av) (r : List Addr) (a : Addr) : Prop := ¬ av a ∧ a ∉ r
noncomputable def CT (av : Av) (r : List Addr) (H : Hp) (cl : List (Str × Addr)) (vs : List V) : Prop :=
  Paired (fun (p : Str × Addr) (v : V) => ∃ (o : Obj) (u : Value), Out av r p.2 ∧ H p.2 = some (.frz o (.own 0)) ∧ o.data = .cell (some u) ∧ RelV v u) cl vs
theorem CT.imp {av av' : Av} {r r' : List Addr} {H H' : Hp} {cl : List (Str × Addr)} {vs : List V} (h : CT av r H cl vs) (f : ∀ a o, Out av r a → H a = some (.frz o (.own 0)) → Out av' r' a ∧ H' a = some (.frz o (.own 0))) : CT av' r' H' cl vs :=
  Paired.mapP h fun p v ⟨o, u, h1, h2, h3, h4⟩ => ⟨o, u, (f _ _ h1 h2).1, (f _ _ h1 h2).2, h3, h4⟩

section
variable (T : Tx) (av : Av) (r : List Addr) (H : Hp)
mutual
noncomputable def RV : PV → V → Prop
  | .non, v => v = .non
  | .bl b, v => v = .bl b
  | .int i, v => v = .int i
  | .str s, v => v = .str s
  | .tup xs, v => ∃ a vs, v = .ref a ∧ ((Out av r a ∧ H a = some (.tup vs)) ∨ (T.kt = true ∧ Kt T.K a vs) ∨ (T.kt = true ∧ Out av r a ∧ ∃ o, H a = some (.frz o (.tup vs)))) ∧ RVs xs vs
  | .lst xs, v => ∃ a vs, v = .ref a ∧ Out av r a ∧ Rd H a (.lst vs) ∧ RVs xs vs
  | .ins c ws, v => ∃ a dx fs, v = .ref a ∧ Out av r a ∧ H a = some (.ins (T.cA c) dx fs) ∧ fs.map (·.1) = T.cN c ∧ RVs ws (fs.map (·.2))
  | .dtt ks ws, v => ∃ a kvs, v = .ref a ∧ Out av r a ∧ Rd H a (.dT kvs) ∧ kvs.map (·.1) = ks ∧ RVs ws (kvs.map (·.2))
  | .dct ks ws, v => ∃ a vs, v = .ref a ∧ Out av r a ∧ DK H a ks vs ∧ RVs ws vs
  | .glo k, v => v = T.g k
  | .ref i, v => ∃ a, r[i]? = some a ∧ v = .ref a
  | .kst xs, v => ∃ a vs, v = .ref a ∧ Kl T.K a vs ∧ RVs xs vs
  | .opq, _ => True
  | .ftup xs, v => ∃ a vs o, v = .ref a ∧ T.kt = true ∧ o.dict = none ∧ Out av r a ∧ H a = some (.frz o (.tup vs)) ∧ RVs xs vs
  | .clo0 l, v => ∃ (f c : Addr) (F : Str) (φ ψ : Heap → Prop) (cl : List (Str × Addr)), v = .ref f ∧ ((T.lmc l cl c f = some (φ, F) ∧ HO.ext ψ = LamX.CodeO c F) ∧ cl.map (·.1) = T.ln l ∧ ∀ p ∈ cl, T.fc p.1 = some p.2) ∧ Out av r f ∧ H f = some (.ext φ) ∧ Out av r c ∧ H c = some (.ext ψ)
  | .clo l xs, v => ∃ (f c : Addr) (F : Str) (φ ψ : Heap → Prop) (cl : List (Str × Addr)) (vs : List V), v = .ref f ∧ ((T.lmc l cl c f = some (φ, F) ∧ HO.ext ψ = LamX.CodeO c F) ∧ cl.map (·.1) = T.ln l) ∧ Out av r f ∧ H f = some (.ext φ) ∧ Out av r c ∧ H c = some (.ext ψ) ∧ CT av r H cl vs ∧ RVs xs vs
  | .lam l, v => ∃ (f c : Addr) (F : Str) (φ ψ : Heap → Prop), v = .ref f ∧ (T.lm l c f = some (φ, F) ∧ HO.ext ψ = LamX.CodeO c F) ∧ Out av r f ∧ H f = some (.ext φ) ∧ Out av r c ∧ H c = some (.ext ψ)
  | .exn c ws, v => ∃ a dx fs, T.ex = some (a, dx) ∧ v = .ref a ∧ Out av r dx ∧ H dx = some (.xd fs) ∧ fs.map (·.1) = T.cN c ∧ RVs ws (fs.map (·.2))
noncomputable def RVs : List PV → List V → Prop
  | [], vs => vs = []
  | x :: xs, vs => ∃ v ws, vs = v :: ws ∧ RV x v ∧ RVs xs ws
end
noncomputable def RO : MO → Addr → Prop
  | .lst xs, a => ∃ vs, H a = some (.lst vs) ∧ RVs T av r H xs vs
  | .ins c ws, a => ∃ dx fs, H a = some (.ins (T.cA c) dx fs) ∧ fs.map (·.1) = (T.cN c).take ws.length ∧ RVs T av r H ws (fs.map (·.2)) ∧ fs.length ≤ 900
  | .dtt ks ws, a => ∃ kvs, H a = some (.dT kvs) ∧ kvs.map (·.1) = ks ∧ RVs T av r H ws (kvs.map (·.2))
  | .dnn ks ws, a => ∃ (xs : List (NestedKey × Addr × Value)) (vs : List V), H a = some (.ext (NDict T.P T.w a xs)) ∧ nksOf ks = some (xs.map (·.1)) ∧ RVs T av r H ks (xs.map fun x => V.ref x.2.1) ∧ RVs T av r H ws vs ∧ Vals vs (xs.map (·.2.2)) ∧ ∀ x ∈ xs, x.1.depth ≤ 8
  | .dct ks ws, a => ∃ vs, DM H a ks vs ∧ RVs T av r H ws vs
structure RM (m : Mem) : Prop where
  len : r.length = m.length
  nd : r.Nodup
  ob : ∀ (i : Nat) (o : MO) (a : Addr), m[i]? = some o → r[i]? = some a → RO T av r H o a
  tb : LamX.Tabs T.tb H
  th : ∀ a, av a ∨ a ∈ r → Hard H a
  nt : ∀ a, av a → ∀ o, H a = some o → nTup o
noncomputable def RE : Env → L2.St → Prop := Paired fun (x : Option PV) (y : Option V) => ∀ v, x = some v → ∃ w, y = some w ∧ RV T av r H v w
end

structure Grow (r : List Addr) (H : Hp) (r' : List Addr) (H' : Hp) : Prop where
  ext : ∃ more, r' = r ++ more ∧ ∀ a ∈ more, ¬ Hard H a
  keep : ∀ b o, H b = some o → b ∉ r → (∀ ps, o ≠ .tbl ps) → H' b = some o
  there : ∀ b, Hard H b → Hard H' b
variable {T : Tx} {av av' : Av} {r r' r2 : List Addr} {H H' H2 : Hp} {m m' : Mem}
theorem Grow.refl : Grow r H r H := ⟨⟨[], by simp, by simp⟩, fun _ _ e _ _ => e, fun _ e => e⟩
theorem Grow.trans (a : Grow r H r' H') (b : Grow r' H' r2 H2) : Grow r H r2 H2 := by
  obtain ⟨m1, e1, f1⟩ := a.ext
  obtain ⟨m2, e2, f2⟩ := b.ext
  refine ⟨⟨m1 ++ m2, by rw [e2, e1, List.append_assoc], fun x hx => ?_⟩, fun x o e n t => ?_, fun x e => b.there x (a.there x e)⟩
  · rcases List.mem_append.mp hx with h | h
    · exact f1 x h
    · exact fun z => f2 x h (a.there x z)
  · refine b.keep x o (a.keep x o e n t) (fun h => ?_) t
    rw [e1] at h
    rcases List.mem_append.mp h with h | h
    · exact n h
    · exact f1 x h ⟨o, e, nTbl_of t⟩
theorem rd_keep {a : Addr} {u : HO} (g : Grow r H r' H') (n : a ∉ r) (h : Rd H a u) (nt : ∀ ps, u ≠ .tbl ps) : Rd H' a u := by
  rcases h with h | ⟨o, h⟩
  · exact .inl (g.keep _ _ h n nt)
  · exact .inr ⟨o, g.keep _ _ h n (fun ps z => by cases z)⟩
theorem rd_some {a : Addr} {u : HO} (h : Rd H a u) (t : nTbl u := by trivial) : Hard H a := by
  rcases h with h | ⟨o, h⟩
  · exact ⟨_, h, t⟩
  · exact ⟨_, h, trivial⟩
theorem dk_some {a : Addr} {ks : List PV} {ws : List V} (h : DK H a ks ws) : Hard H a := by
  rcases h with ⟨_, h, _⟩ | ⟨_, h, _⟩ <;> exact rd_some h
theorem dk_keep {a : Addr} {ks : List PV} {ws : List V} (g : Grow r H r' H') (n : a ∉ r) (h : DK H a ks ws) : DK H' a ks ws := by
  rcases h with ⟨kvs, h, e⟩ | ⟨kvs, h, e⟩
  · exact .inl ⟨kvs, rd_keep g n h (fun ps z => by cases z), e⟩
  · exact .inr ⟨kvs, rd_keep g n h (fun ps z => by cases z), e⟩
theorem Out.grow {a : Addr} (g : Grow r H r' H') (o : Out av r a) (h : Hard H a) : Out av r' a := by
  obtain ⟨more, e, f⟩ := g.ext
  refine ⟨o.1, fun hm => ?_⟩
  rw [e] at hm
  rcases List.mem_append.mp hm with q | q
  · exact o.2 q
  · exact f a q h
theorem get_grow {i : Nat} {a : Addr} (g : Grow r H r' H') (h : r[i]? = some a) : r'[i]? = some a := by
  obtain ⟨more, e, _⟩ := g.ext
  rw [e, List.getElem?_append_left (List.getElem?_eq_some_iff.mp h).1]
  exact h
mutual
theorem RV.grow (g : Grow r H r' H') : ∀ (x : PV) {v : V}, RV T av r H x v → RV T av r' H' x v
  | .non, _, h => by unfold RV at *; exact h
  | .bl _, _, h => by unfold RV at *; exact h
  | .int _, _, h => by unfold RV at *; exact h
  | .str _, _, h => by unfold RV at *; exact h
  | .tup xs, _, h => by
    unfold RV at *
    obtain ⟨a, vs, e, h1, h2⟩ := h
    refine ⟨a, vs, e, ?_, RVs.grow g xs h2⟩
    rcases h1 with ⟨o, d⟩ | k | ⟨kt, o, ob, d⟩
    · exact .inl ⟨o.grow g ⟨_, d, trivial⟩, g.keep _ _ d o.2 (fun ps z => by cases z)⟩
    · exact .inr (.inl k)
    · exact .inr (.inr ⟨kt, o.grow g ⟨_, d, trivial⟩, ob, g.keep _ _ d o.2 (fun ps z => by cases z)⟩)
  | .kst xs, _, h => by
    unfold RV at *
    obtain ⟨a, vs, e, k, h2⟩ := h
    exact ⟨a, vs, e, k, RVs.grow g xs h2⟩
  | .lst xs, _, h => by
    unfold RV at *
    obtain ⟨a, vs, e, o, d, h2⟩ := h
    exact ⟨a, vs, e, o.grow g (rd_some d), rd_keep g o.2 d (fun ps z => by cases z), RVs.grow g xs h2⟩
  | .ins c ws, _, h => by
    unfold RV at *
    obtain ⟨a, dx, fs, e, o, d, n, h2⟩ := h
    exact ⟨a, dx, fs, e, o.grow g ⟨_, d, trivial⟩, g.keep _ _ d o.2 (fun ps z => by cases z), n, RVs.grow g ws h2⟩
  | .dtt ks ws, _, h => by
    unfold RV at *
    obtain ⟨a, kvs, e, o, d, nm, h2⟩ := h
    exact ⟨a, kvs, e, o.grow g (rd_some d), rd_keep g o.2 d (fun ps z => by cases z), nm, RVs.grow g ws h2⟩
  | .exn c ws, _, h => by
    unfold RV at *
    obtain ⟨a, dx, fs, ex, e, o, d, n, h2⟩ := h
    exact ⟨a, dx, fs, ex, e, o.grow g ⟨_, d, trivial⟩, g.keep _ _ d o.2 (fun ps z => by cases z), n, RVs.grow g ws h2⟩
  | .dct ks ws, _, h => by
    unfold RV at *
    obtain ⟨a, vs, e, o, d, h2⟩ := h
    exact ⟨a, vs, e, o.grow g (dk_some d), dk_keep g o.2 d, RVs.grow g ws h2⟩
  | .glo _, _, h => by unfold RV at *; exact h
  | .opq, _, _ => by unfold RV; trivial
  | .ftup xs, _, h => by
    unfold RV at *
    obtain ⟨a, vs, ob, e, kt, dn, o, d, h2⟩ := h
    exact ⟨a, vs, ob, e, kt, dn, o.grow g ⟨_, d, trivial⟩, g.keep _ _ d o.2 (fun ps z => by cases z), RVs.grow g xs h2⟩
  | .clo0 l, _, h => by
    unfold RV at *
    obtain ⟨f, c, F, φ, ψ, cl, e, z, o1, d1, o2, d2⟩ := h
    exact ⟨f, c, F, φ, ψ, cl, e, z, o1.grow g ⟨_, d1, trivial⟩, g.keep _ _ d1 o1.2 (fun ps z => by cases z), o2.grow g ⟨_, d2, trivial⟩, g.keep _ _ d2 o2.2 (fun ps z => by cases z)⟩
  | .clo l xs, _, h => by
    unfold RV at *
    obtain ⟨f, c, F, φ, ψ, cl, vs, e, z, o1, d1, o2, d2, ct, h2⟩ := h
    exact ⟨f, c, F, φ, ψ, cl, vs, e, z, o1.grow g ⟨_, d1, trivial⟩, g.keep _ _ d1 o1.2 (fun ps z => by cases z), o2.grow g ⟨_, d2, trivial⟩, g.keep _ _ d2 o2.2 (fun ps z => by cases z), ct.imp (fun a ob o d => ⟨o.grow g ⟨_, d, trivial⟩, g.keep _ _ d o.2 (fun ps z => by cases z)⟩), RVs.grow g xs h2⟩
  | .lam l, _, h => by
    unfold RV at *
    obtain ⟨f, c, F, φ, ψ, e, z, o1, d1, o2, d2⟩ := h
    exact ⟨f, c, F, φ, ψ, e, z, o1.grow g ⟨_, d1, trivial⟩, g.keep _ _ d1 o1.2 (fun ps z => by cases z), o2.grow g ⟨_, d2, trivial⟩, g.keep _ _ d2 o2.2 (fun ps z => by cases z)⟩
  | .ref i, _, h => by
    unfold RV at *
    obtain ⟨a, h1, h2⟩ := h
    exact ⟨a, get_grow g h1, h2⟩
theorem RVs.grow (g : Grow r H r' H') : ∀ (xs : List PV) {vs : List V}, RVs T av r H xs vs → RVs T av r' H' xs vs
  | [], _, h => by unfold RVs at *; exact h
  | x :: xs, _, h => by
    unfold RVs at *
    obtain ⟨v, ws, e, h1, h2⟩ := h
    exact ⟨v, ws, e, RV.grow g x h1, RVs.grow g xs h2⟩
end
theorem RE.grow (g : Grow r H r' H') : ∀ {e : Env} {s : L2.St}, RE T av r H e s → RE T av r' H' e s
  | _, _, .nil => .nil
  | _, _, .cons h t => .cons (fun v hv => by obtain ⟨w, e, q⟩ := h v hv; exact ⟨w, e, RV.grow g _ q⟩) (RE.grow g t)
theorem RE.get : ∀ {e : Env} {s : L2.St} {i : Nat} {v : PV}, RE T av r H e s → e[i]? = some (some v) → ∃ w, s[i]? = some (some w) ∧ RV T av r H v w
  | _, _, _, _, .nil, h => by simp at h
  | _, _, 0, v, .cons h t, e => by
    simp at e
    obtain ⟨w, e1, q⟩ := h v e
    exact ⟨w, by simp [e1], q⟩
  | _, _, i + 1, v, .cons _ t, e => by
    obtain ⟨w, e1, q⟩ := RE.get (i := i) t (by simpa using e)
    exact ⟨w, by simpa using e1, q⟩
theorem RE.set {v : PV} {w : V} (q : RV T av r H v w) : ∀ {e : Env} {s : L2.St} (i : Nat), RE T av r H e s → RE T av r H (e.set i (some v)) (s.set i (some w))
  | _, _, _, .nil => .nil
  | _, _, 0, .cons _ t => .cons (fun v' hv => by cases hv; exact ⟨w, rfl, q⟩) t
  | _, _, i + 1, .cons h t => .cons h (RE.set q i t)

noncomputable def RX (T : Tx) (av : Av) (r : List Addr) (H : Hp) (c : Nat) (ws : List PV) (cls : Value) (d : Option Addr) : Prop :=
  cls = .ref (T.cA c) ∧ (ws = [] ∨ ∃ dx fs, d = some dx ∧ Out av r dx ∧ H dx = some (.xd fs) ∧ fs.map (·.1) = T.cN c ∧ RVs T av r H ws (fs.map (·.2)))

noncomputable def okR (T : Tx) (av : Av) (r : List Addr) (H : Hp) (W : Value → Option Addr → Hp → Prop) {s : Type} (K : s → Mem → Prop) : Res s → Prop
  | .ok v m' => K v m'
  | .exc c ws m' => ∀ r' H' cls d, Grow r H r' H' → RM T av r' H' m' → RX T av r' H' c ws cls d → W cls d H'
  | .bad => False
noncomputable def KE (T : Tx) (av : Av) (r : List Addr) (H : Hp) (Q : VK) (v : PV) (m' : Mem) : Prop := ∀ r' H' w, Grow r H r' H' → RM T av r' H' m' → RV T av r' H' v w → Q w H'
noncomputable def KT (T : Tx) (av : Av) (r : List Addr) (H : Hp) (Q : Bool → Hp → Prop) (v : Bool) (m' : Mem) : Prop := ∀ r' H', Grow r H r' H' → RM T av r' H' m' → Q v H'
noncomputable def KA (T : Tx) (av : Av) (r : List Addr) (H : Hp) (Q : List V → Hp → Prop) (v : List PV) (m' : Mem) : Prop := ∀ r' H' w, Grow r H r' H' → RM T av r' H' m' → RVs T av r' H' v w → Q w H'
noncomputable def KF (T : Tx) (av : Av) (r : List Addr) (H : Hp) (Q : VK) (xs : List PV) (m' : Mem) : Prop := ∀ r' H' p vs, Grow r H r' H' → ¬ Hard H p → p ∉ r' → H' p = some (.lst vs) → RM T (fun a => av a ∨ a = p) r' H' m' → RVs T (fun a => av a ∨ a = p) r' H' xs vs → Q (.ref p) H'
noncomputable abbrev okE (T : Tx) (av : Av) (r : List Addr) (H : Hp) (W : Value → Option Addr → Hp → Prop) (Q : VK) : Res PV → Prop := okR T av r H W (KE T av r H Q)
noncomputable abbrev okT (T : Tx) (av : Av) (r : List Addr) (H : Hp) (W : Value → Option Addr → Hp → Prop) (Q : Bool → Hp → Prop) : Res Bool → Prop := okR T av r H W (KT T av r H Q)
noncomputable abbrev okA (T : Tx) (av : Av) (r : List Addr) (H : Hp) (W : Value → Option Addr → Hp → Prop) (Q : List V → Hp → Prop) : Res (List PV) → Prop := okR T av r H W (KA T av r H Q)
noncomputable abbrev okF (T : Tx) (av : Av) (r : List Addr) (H : Hp) (W : Value → Option Addr → Hp → Prop) (Q : VK) : Res (List PV) → Prop := okR T av r H W (KF T av r H Q)
noncomputable def tE (T : Tx) (W : WX) (me : ME) : TE := fun σ H Q => ∃ av r e m, RE T av r H e σ ∧ RM T av r H m ∧ okE T av r H (fun c d H' => W c d σ H') Q (me e m)
noncomputable def tT (T : Tx) (W : WX) (me : MT) : TT := fun σ H Q => ∃ av r e m, RE T av r H e σ ∧ RM T av r H m ∧ okT T av r H (fun c d H' => W c d σ H') Q (me e m)
noncomputable def tA (T : Tx) (W : WX) (me : MA) : TA := fun σ H Q => ∃ av r e m, RE T av r H e σ ∧ RM T av r H m ∧ okA T av r H (fun c d H' => W c d σ H') Q (me e m)
noncomputable def tF (T : Tx) (W : WX) (me : MA) : TE := fun σ H Q => ∃ av r e m, RE T av r H e σ ∧ RM T av r H m ∧ okF T av r H (fun c d H' => W c d σ H') Q (me e m)
noncomputable def okS (T : Tx) (av : Av) (r : List Addr) (H : Hp) (W : WX) (D : Ends) : SRes → Prop
  | .nx e' m' => ∀ r' H' σ', Grow r H r' H' → RM T av r' H' m' → RE T av r' H' e' σ' → D.nx σ' H'
  | .bk e' m' => ∀ r' H' σ', Grow r H r' H' → RM T av r' H' m' → RE T av r' H' e' σ' → D.bk σ' H'
  | .ct e' m' => ∀ r' H' σ', Grow r H r' H' → RM T av r' H' m' → RE T av r' H' e' σ' → D.ct σ' H'
  | .rt v m' => ∀ r' H' w, Grow r H r' H' → RM T av r' H' m' → RV T av r' H' v w → D.rt w H'
  | .exc c ws e' m' => ∀ r' H' σ' cls d, Grow r H r' H' → RM T av r' H' m' → RE T av r' H' e' σ' → RX T av r' H' c ws cls d → W cls d σ' H'
  | .bad => False
noncomputable def tS (T : Tx) (W : WX) (ms : MS) : TS := fun D σ H => ∃ av r e m, RE T av r H e σ ∧ RM T av r H m ∧ okS T av r H W D (ms e m)

structure SE (X : Cx) (T : Tx) (W : WX) (e : Expr) (me : ME) : Prop where pe : PE X e (tE T W me)
structure ST (X : Cx) (T : Tx) (W : WX) (e : Expr) (me : MT) : Prop where pt : PT X e (tT T W me)
structure SW (X : Cx) (T : Tx) (W : WX) (e : Expr) (me : MT) : Prop where pw : PW X e (tT T W me)
structure SA (X : Cx) (T : Tx) (W : WX) (es : List Expr) (me : MA) : Prop where pa : PA X es (tA T W me)
structure SF (X : Cx) (T : Tx) (W : WX) (e : Expr) (me : MA) : Prop where pe : PE X e (tF T W me)
structure SS (X : Cx) (T : Tx) (W : WX) (st : Stmt) (ms : MS) : Prop where ps : PS X st (tS T W ms)
structure SB (X : Cx) (T : Tx) (W : WX) (st : List Stmt) (ms : MS) : Prop where ps : PSs X st (tS T W ms)

theorem PE.imp {X : Cx} {e : Expr} {t t' : TE} (h : PE X e t) (f : ∀ σ H Q, t' σ H Q → t σ H Q) : PE X e t' := ⟨fun pins s σ H Q I q => h.run pins s σ H Q I (f σ H Q q)⟩
theorem PT.imp {X : Cx} {e : Expr} {t t' : TT} (h : PT X e t) (f : ∀ σ H Q, t' σ H Q → t σ H Q) : PT X e t' := ⟨fun pins s σ H Q I q => h.run pins s σ H Q I (f σ H Q q)⟩
theorem PW.imp {X : Cx} {e : Expr} {t t' : TT} (h : PW X e t) (f : ∀ σ H Q, t' σ H Q → t σ H Q) : PW X e t' := ⟨fun wh pins s σ H Q I q => h.run wh pins s σ H Q I (f σ H Q q)⟩
theorem PA.imp {X : Cx} {e : List Expr} {t t' : TA} (h : PA X e t) (f : ∀ σ H Q, t' σ H Q → t σ H Q) : PA X e t' := ⟨fun p pins s σ H Q I q => h.run p pins s σ H Q I (f σ H Q q)⟩
theorem PS.imp {X : Cx} {e : Stmt} {t t' : TS} (h : PS X e t) (f : ∀ D σ H, t' D σ H → t D σ H) : PS X e t' := ⟨fun pins s σ H D I q => h.run pins s σ H D I (f D σ H q)⟩
theorem PSs.imp {X : Cx} {e : List Stmt} {t t' : TS} (h : PSs X e t) (f : ∀ D σ H, t' D σ H → t D σ H) : PSs X e t' := ⟨fun pins s σ H D I q => h.run pins s σ H D I (f D σ H q)⟩

noncomputable def Res.bind {s t : Type} (x : Res s) (f : s → Mem → Res t) : Res t :=
  match x with
  | .ok a m => f a m
  | .exc c ws m => .exc c ws m
  | .bad => .bad
theorem okR_bind {W : Value → Option Addr → Hp → Prop} {s t : Type} {K : t → Mem → Prop} {f : s → Mem → Res t} : ∀ {x : Res s}, okR T av r H W K (x.bind f) → okR T av r H W (fun v m => okR T av r H W K (f v m)) x
  | .ok _ _, h => h
  | .exc _ _ _, h => h
  | .bad, h => h
theorem okR_imp {W : Value → Option Addr → Hp → Prop} {s : Type} {K K' : s → Mem → Prop} : ∀ {x : Res s}, okR T av r H W K x → (∀ v m, K v m → K' v m) → okR T av r H W K' x
  | .ok _ _, h, f => f _ _ h
  | .exc _ _ _, h, _ => h
  | .bad, h, _ => h
theorem okR_grow {W : Value → Option Addr → Hp → Prop} {s : Type} {K K' : s → Mem → Prop} (g : Grow r H r' H') (f : ∀ v m, K v m → K' v m) : ∀ {x : Res s}, okR T av r H W K x → okR T av r' H' W K' x
  | .ok _ _, h => f _ _ h
  | .exc _ _ _, h => fun r2 H2 c d g2 rm rx => h r2 H2 c d (g.trans g2) rm rx
  | .bad, h => h
theorem KE.grow {Q : VK} (g : Grow r H r' H') {v : PV} {m : Mem} (h : KE T av r H Q v m) : KE T av r' H' Q v m := fun r2 H2 w g2 => h r2 H2 w (g.trans g2)
theorem KT.grow {Q : Bool → Hp → Prop} (g : Grow r H r' H') {v : Bool} {m : Mem} (h : KT T av r H Q v m) : KT T av r' H' Q v m := fun r2 H2 g2 => h r2 H2 (g.trans g2)
theorem KA.grow {Q : List V → Hp → Prop} (g : Grow r H r' H') {v : List PV} {m : Mem} (h : KA T av r H Q v m) : KA T av r' H' Q v m := fun r2 H2 w g2 => h r2 H2 w (g.trans g2)
theorem Grow.none (g : Grow r H r' H') {p : Addr} (hp : ¬ Hard H' p) : ¬ Hard H p := fun z => hp (g.there p z)
theorem KF.grow {Q : VK} (g : Grow r H r' H') {v : List PV} {m : Mem} (h : KF T av r H Q v m) : KF T av r' H' Q v m := fun r2 H2 p vs g2 hp => h r2 H2 p vs (g.trans g2) (g.none hp)
end M

namespace M
open PySem PySem.Spec PyProof.Rows L2
variable {X : Cx} {T : Tx} {W : WX} {a b c : Expr} {ma mb mc : ME} {pos : Pos}

noncomputable def mVar (i : Nat) : ME := fun e m => match e[i]? with
  | some (some v) => .ok v m
  | _ => .bad
noncomputable def mC (v : PV) : ME := fun _ m => .ok v m
theorem se_var (i : Nat) {x : Str} (hN : X.N[i]? = some x := by rfl) (hv : Vis X.env.scope x := by first | exact Or.inl rfl | exact Or.inr (Or.inl rfl) | exact Or.inr (Or.inr rfl))
    (hd : (x == ("__debug__" : Str)) = false := by decide) (hcd : (x == ("__classdict__" : Str)) = false := by decide) : SE X T W (.Name x pos) (mVar i) :=
  ⟨PE.imp (pe_var hN hv hd hcd) fun σ H Q ⟨av, r, e, m, re, rm, h⟩ => by
    unfold mVar at h
    split at h
    · rename_i v hv
      obtain ⟨w, hw, q⟩ := re.get hv
      exact ⟨w, hw, h r H w .refl rm q⟩
    · exact h.elim⟩
theorem se_const {e : Expr} {x : PV} {v : V} (hp : PE X e (tC v)) (hr : ∀ av r H, RV T av r H x v) : SE X T W e (mC x) :=
  ⟨PE.imp hp fun σ H Q ⟨av, r, e, m, re, rm, h⟩ => h r H v .refl rm (hr _ _ _)⟩
theorem se_int {i : Int} {j} : SE X T W (.Constant (.int i) j pos) (mC (.int i)) := se_const pe_int fun _ _ _ => by unfold RV; rfl
theorem se_bl {i : Bool} {j} : SE X T W (.Constant (.bool i) j pos) (mC (.bl i)) := se_const pe_bl fun _ _ _ => by unfold RV; rfl
theorem se_non {j} : SE X T W (.Constant .none j pos) (mC .non) := se_const pe_non fun _ _ _ => by unfold RV; rfl
theorem se_str {s : Str} {j} : SE X T W (.Constant (.str s) j pos) (mC (.str s)) := se_const pe_str fun _ _ _ => by unfold RV; rfl
theorem se_glo (k : Nat) {x : Str} {u : Value} (hg : Gl X x) (hm : X.mg x = some u) (hr : RelV (T.g k) u) (hd : (x == ("__debug__" : Str)) = false := by decide) : SE X T W (.Name x pos) (mC (.glo k)) :=
  se_const (pe_glob hg hm hr hd) fun _ _ _ => by unfold RV; rfl
theorem se_glob (k : Nat) {x : Str} {u : Value} (hg : Gl X x) (hm : X.mg x = none) (hv : bootBuiltins x = some u) (hr : RelV (T.g k) u) (hn : x ≠ "__name__" := by decide) (hd : (x == ("__debug__" : Str)) = false := by decide) : SE X T W (.Name x pos) (mC (.glo k)) :=
  se_const (pe_bltn hg hm hv hr hn hd) fun _ _ _ => by unfold RV; rfl
theorem se_gint {i : Int} {x : Str} {u : Value} (hg : Gl X x) (hm : X.mg x = some u) (hr : RelV (.int i) u) (hd : (x == ("__debug__" : Str)) = false := by decide) : SE X T W (.Name x pos) (mC (.int i)) :=
  se_const (pe_glob hg hm hr hd) fun _ _ _ => by unfold RV; rfl

noncomputable def mNil : MA := fun _ m => .ok [] m
noncomputable def mCons (ma : ME) (mr : MA) : MA := fun e m => (ma e m).bind fun v m1 => (mr e m1).bind fun vs m2 => .ok (v :: vs) m2
theorem sa_nil : SA X T W [] mNil := ⟨PA.imp pa_nil fun σ H Q ⟨av, r, e, m, re, rm, h⟩ => h r H [] .refl rm (by unfold RVs; rfl)⟩
theorem sa_cons {es : List Expr} {mr : MA} (ha : SE X T W a ma) (hr : SA X T W es mr) (hs : starEach (a :: es) X.env = (false, eval a X.env) :: starEach es X.env := by rfl) : SA X T W (a :: es) (mCons ma mr) :=
  ⟨PA.imp (pa_cons ha.pe hr.pa hs) fun σ H Q ⟨av, r, e, m, re, rm, h⟩ =>
    ⟨av, r, e, m, re, rm, okR_imp (okR_bind h) fun v m1 h r1 H1 w g1 rm1 rv =>
      ⟨av, r1, e, m1, re.grow g1, rm1, okR_grow g1 (fun vs m2 h r2 H2 ws g2 rm2 rvs => h r2 H2 (w :: ws) (g1.trans g2) rm2 (by unfold RVs; exact ⟨w, ws, rfl, rv.grow g2, rvs⟩)) (okR_bind h)⟩⟩⟩

theorem RVs.length : ∀ {av : Av} {r : List Addr} {H : Hp} {xs : List PV} {vs : List V}, RVs T av r H xs vs → vs.length = xs.length
  | _, _, _, [], _, h => by unfold RVs at h; rw [h]; rfl
  | _, _, _, x :: xs, _, h => by
    unfold RVs at h
    obtain ⟨v, ws, e, _, h2⟩ := h
    rw [e, List.length_cons, List.length_cons, RVs.length h2]
theorem rd_upd {H : Hp} {p a : Addr} {o u : HO} (hp : H p = none) (h : Rd H a u) : Rd (upd H p o) a u := by
  have ne : a ≠ p := fun z => by
    subst z
    rcases h with h | ⟨o', h⟩ <;> (rw [hp] at h; cases h)
  rcases h with h | ⟨o', h⟩
  · exact .inl (by rw [upd_ne ne]; exact h)
  · exact .inr ⟨o', by rw [upd_ne ne]; exact h⟩
theorem dk_upd {H : Hp} {p a : Addr} {o : HO} {ks : List PV} {ws : List V} (hp : H p = none) (h : DK H a ks ws) : DK (upd H p o) a ks ws := by
  rcases h with ⟨kvs, h, e⟩ | ⟨kvs, h, e⟩
  · exact .inl ⟨kvs, rd_upd hp h, e⟩
  · exact .inr ⟨kvs, rd_upd hp h, e⟩
theorem dm_upd {H : Hp} {p a : Addr} {o : HO} {ks : List PV} {ws : List V} (ne : a ≠ p) (h : DM H a ks ws) : DM (upd H p o) a ks ws := by
  rcases h with ⟨kvs, h, e⟩ | ⟨kvs, h, e⟩
  · exact .inl ⟨kvs, by rw [upd_ne ne]; exact h, e⟩
  · exact .inr ⟨kvs, by rw [upd_ne ne]; exact h, e⟩
theorem dm_some {H : Hp} {a : Addr} {ks : List PV} {ws : List V} (h : DM H a ks ws) : Hard H a := dk_some h.dk
mutual
theorem RV.away {av : Av} {r : List Addr} {H : Hp} {p : Addr} {o : HO} (hp : H p = none) : ∀ (x : PV) {v : V}, RV T av r H x v → RV T (fun a => av a ∨ a = p) r (upd H p o) x v
  | .non, _, h => by unfold RV at *; exact h
  | .bl _, _, h => by unfold RV at *; exact h
  | .int _, _, h => by unfold RV at *; exact h
  | .str _, _, h => by unfold RV at *; exact h
  | .tup xs, _, h => by
    unfold RV at *
    obtain ⟨a, vs, e, h1, h2⟩ := h
    refine ⟨a, vs, e, ?_, RVs.away hp xs h2⟩
    rcases h1 with ⟨o, d⟩ | k | ⟨kt, o, ob, d⟩
    · have ne : a ≠ p := fun z => by rw [z, hp] at d; cases d
      exact .inl ⟨⟨fun z => z.elim o.1 ne, o.2⟩, by rw [upd_ne ne]; exact d⟩
    · exact .inr (.inl k)
    · exact .inr (.inr ⟨kt, ⟨fun z => z.elim o.1 (fun z => by rw [z, hp] at d; cases d), o.2⟩, ob, (by rw [upd_ne (fun z => by rw [z, hp] at d; cases d)]; exact d)⟩)
  | .kst xs, _, h => by
    unfold RV at *
    obtain ⟨a, vs, e, k, h2⟩ := h
    exact ⟨a, vs, e, k, RVs.away hp xs h2⟩
  | .lst xs, _, h => by
    unfold RV at *
    obtain ⟨a, vs, e, o, d, h2⟩ := h
    exact ⟨a, vs, e, ⟨fun z => z.elim o.1 fun z => soft hp (z ▸ rd_some d), o.2⟩, rd_upd hp d, RVs.away hp xs h2⟩
  | .ins c ws, _, h => by
    unfold RV at *
    obtain ⟨a, dx, fs, e, o, d, n, h2⟩ := h
    have ne : a ≠ p := fun z => by rw [z, hp] at d; cases d
    exact ⟨a, dx, fs, e, ⟨fun z => z.elim o.1 ne, o.2⟩, by rw [upd_ne ne]; exact d, n, RVs.away hp ws h2⟩
  | .dtt ks ws, _, h => by
    unfold RV at *
    obtain ⟨a, kvs, e, o, d, nm, h2⟩ := h
    exact ⟨a, kvs, e, ⟨fun z => z.elim o.1 fun z => soft hp (z ▸ rd_some d), o.2⟩, rd_upd hp d, nm, RVs.away hp ws h2⟩
  | .exn c ws, _, h => by
    unfold RV at *
    obtain ⟨a, dx, fs, ex, e, o, d, n, h2⟩ := h
    have ne : dx ≠ p := fun z => by rw [z, hp] at d; cases d
    exact ⟨a, dx, fs, ex, e, ⟨fun z => z.elim o.1 ne, o.2⟩, by rw [upd_ne ne]; exact d, n, RVs.away hp ws h2⟩
  | .dct ks ws, _, h => by
    unfold RV at *
    obtain ⟨a, vs, e, o, d, h2⟩ := h
    exact ⟨a, vs, e, ⟨fun z => z.elim o.1 fun z => soft hp (z ▸ dk_some d), o.2⟩, dk_upd hp d, RVs.away hp ws h2⟩
  | .glo _, _, h => by unfold RV at *; exact h
  | .opq, _, _ => by unfold RV; trivial
  | .ftup xs, _, h => by
    unfold RV at *
    obtain ⟨a, vs, ob, e, kt, dn, o, d, h2⟩ := h
    exact ⟨a, vs, ob, e, kt, dn, ⟨fun z => z.elim o.1 (fun z => by rw [z, hp] at d; cases d), o.2⟩, (by rw [upd_ne (fun z => by rw [z, hp] at d; cases d)]; exact d), RVs.away hp xs h2⟩
  | .clo0 l, _, h => by
    unfold RV at *
    obtain ⟨f, c, F, φ, ψ, cl, e, z, o1, d1, o2, d2⟩ := h
    exact ⟨f, c, F, φ, ψ, cl, e, z, ⟨fun z => z.elim o1.1 (fun z => by rw [z, hp] at d1; cases d1), o1.2⟩, (by rw [upd_ne (fun z => by rw [z, hp] at d1; cases d1)]; exact d1), ⟨fun z => z.elim o2.1 (fun z => by rw [z, hp] at d2; cases d2), o2.2⟩, (by rw [upd_ne (fun z => by rw [z, hp] at d2; cases d2)]; exact d2)⟩
  | .clo l xs, _, h => by
    unfold RV at *
    obtain ⟨f, c, F, φ, ψ, cl, vs, e, z, o1, d1, o2, d2, ct, h2⟩ := h
    exact ⟨f, c, F, φ, ψ, cl, vs, e, z, ⟨fun z => z.elim o1.1 (fun z => by rw [z, hp] at d1; cases d1), o1.2⟩, (by rw [upd_ne (fun z => by rw [z, hp] at d1; cases d1)]; exact d1), ⟨fun z => z.elim o2.1 (fun z => by rw [z, hp] at d2; cases d2), o2.2⟩, (by rw [upd_ne (fun z => by rw [z, hp] at d2; cases d2)]; exact d2), ct.imp (fun a ob o d => ⟨⟨fun z => z.elim o.1 (fun z => by rw [z, hp] at d; cases d), o.2⟩, (by rw [upd_ne (fun z => by rw [z, hp] at d; cases d)]; exact d)⟩), RVs.away hp xs h2⟩
  | .lam l, _, h => by
    unfold RV at *
    obtain ⟨f, c, F, φ, ψ, e, z, o1, d1, o2, d2⟩ := h
    have ne : ∀ a u, H a = some u → a ≠ p := fun a u d z => by rw [z, hp] at d; cases d
    exact ⟨f, c, F, φ, ψ, e, z, ⟨fun z => z.elim o1.1 (ne _ _ d1), o1.2⟩, (by rw [upd_ne (ne _ _ d1)]; exact d1), ⟨fun z => z.elim o2.1 (ne _ _ d2), o2.2⟩, (by rw [upd_ne (ne _ _ d2)]; exact d2)⟩
  | .ref i, _, h => by unfold RV at *; exact h
theorem RVs.away {av : Av} {r : List Addr} {H : Hp} {p : Addr} {o : HO} (hp : H p = none) : ∀ (xs : List PV) {vs : List V}, RVs T av r H xs vs → RVs T (fun a => av a ∨ a = p) r (upd H p o) xs vs
  | [], _, h => by unfold RVs at *; exact h
  | x :: xs, _, h => by
    unfold RVs at *
    obtain ⟨v, ws, e, h1, h2⟩ := h
    exact ⟨v, ws, e, RV.away hp x h1, RVs.away hp xs h2⟩
end
mutual
theorem RV.near {av : Av} {r : List Addr} {H : Hp} {p : Addr} : ∀ (x : PV) {v : V}, RV T (fun a => av a ∨ a = p) r H x v → RV T av r H x v
  | .non, _, h => by unfold RV at *; exact h
  | .bl _, _, h => by unfold RV at *; exact h
  | .int _, _, h => by unfold RV at *; exact h
  | .str _, _, h => by unfold RV at *; exact h
  | .tup xs, _, h => by
    unfold RV at *
    obtain ⟨a, vs, e, h1, h2⟩ := h
    refine ⟨a, vs, e, ?_, RVs.near xs h2⟩
    rcases h1 with ⟨o, d⟩ | k | ⟨kt, o, ob, d⟩
    · exact .inl ⟨⟨fun z => o.1 (.inl z), o.2⟩, d⟩
    · exact .inr (.inl k)
    · exact .inr (.inr ⟨kt, ⟨fun z => o.1 (.inl z), o.2⟩, ob, d⟩)
  | .kst xs, _, h => by
    unfold RV at *
    obtain ⟨a, vs, e, k, h2⟩ := h
    exact ⟨a, vs, e, k, RVs.near xs h2⟩
  | .lst xs, _, h => by
    unfold RV at *
    obtain ⟨a, vs, e, o, d, h2⟩ := h
    exact ⟨a, vs, e, ⟨fun z => o.1 (.inl z), o.2⟩, d, RVs.near xs h2⟩
  | .ins c ws, _, h => by
    unfold RV at *
    obtain ⟨a, dx, fs, e, o, d, n, h2⟩ := h
    exact ⟨a, dx, fs, e, ⟨fun z => o.1 (.inl z), o.2⟩, d, n, RVs.near ws h2⟩
  | .dtt ks ws, _, h => by
    unfold RV at *
    obtain ⟨a, kvs, e, o, d, nm, h2⟩ := h
    exact ⟨a, kvs, e, ⟨fun z => o.1 (.inl z), o.2⟩, d, nm, RVs.near ws h2⟩
  | .exn c ws, _, h => by
    unfold RV at *
    obtain ⟨a, dx, fs, ex, e, o, d, n, h2⟩ := h
    exact ⟨a, dx, fs, ex, e, ⟨fun z => o.1 (.inl z), o.2⟩, d, n, RVs.near ws h2⟩
  | .dct ks ws, _, h => by
    unfold RV at *
    obtain ⟨a, vs, e, o, d, h2⟩ := h
    exact ⟨a, vs, e, ⟨fun z => o.1 (.inl z), o.2⟩, d, RVs.near ws h2⟩
  | .glo _, _, h => by unfold RV at *; exact h
  | .opq, _, _ => by unfold RV; trivial
  | .ftup xs, _, h => by
    unfold RV at *
    obtain ⟨a, vs, ob, e, kt, dn, o, d, h2⟩ := h
    exact ⟨a, vs, ob, e, kt, dn, ⟨fun z => o.1 (.inl z), o.2⟩, d, RVs.near xs h2⟩
  | .clo0 l, _, h => by
    unfold RV at *
    obtain ⟨f, c, F, φ, ψ, cl, e, z, o1, d1, o2, d2⟩ := h
    exact ⟨f, c, F, φ, ψ, cl, e, z, ⟨fun z => o1.1 (.inl z), o1.2⟩, d1, ⟨fun z => o2.1 (.inl z), o2.2⟩, d2⟩
  | .clo l xs, _, h => by
    unfold RV at *
    obtain ⟨f, c, F, φ, ψ, cl, vs, e, z, o1, d1, o2, d2, ct, h2⟩ := h
    exact ⟨f, c, F, φ, ψ, cl, vs, e, z, ⟨fun z => o1.1 (.inl z), o1.2⟩, d1, ⟨fun z => o2.1 (.inl z), o2.2⟩, d2, ct.imp (fun a ob o d => ⟨⟨fun z => o.1 (.inl z), o.2⟩, d⟩), RVs.near xs h2⟩
  | .lam l, _, h => by
    unfold RV at *
    obtain ⟨f, c, F, φ, ψ, e, z, o1, d1, o2, d2⟩ := h
    exact ⟨f, c, F, φ, ψ, e, z, ⟨fun z => o1.1 (.inl z), o1.2⟩, d1, ⟨fun z => o2.1 (.inl z), o2.2⟩, d2⟩
  | .ref i, _, h => by unfold RV at *; exact h
theorem RVs.near {av : Av} {r : List Addr} {H : Hp} {p : Addr} : ∀ (xs : List PV) {vs : List V}, RVs T (fun a => av a ∨ a = p) r H xs vs → RVs T av r H xs vs
  | [], _, h => by unfold RVs at *; exact h
  | x :: xs, _, h => by
    unfold RVs at *
    obtain ⟨v, ws, e, h1, h2⟩ := h
    exact ⟨v, ws, e, RV.near x h1, RVs.near xs h2⟩
end
mutual
theorem RV.held {av : Av} {r : List Addr} {H : Hp} {p : Addr} : ∀ (x : PV) {v : V}, RV T (fun a => av a ∨ a = p) r H x v → RV T av (r ++ [p]) H x v
  | .non, _, h => by unfold RV at *; exact h
  | .bl _, _, h => by unfold RV at *; exact h
  | .int _, _, h => by unfold RV at *; exact h
  | .str _, _, h => by unfold RV at *; exact h
  | .tup xs, _, h => by
    unfold RV at *
    obtain ⟨a, vs, e, h1, h2⟩ := h
    refine ⟨a, vs, e, ?_, RVs.held xs h2⟩
    rcases h1 with ⟨o, d⟩ | k | ⟨kt, o, ob, d⟩
    · exact .inl ⟨⟨fun z => o.1 (.inl z), fun z => (List.mem_append.mp z).elim o.2 fun z => o.1 (.inr (by simpa using z))⟩, d⟩
    · exact .inr (.inl k)
    · exact .inr (.inr ⟨kt, ⟨fun z => o.1 (.inl z), fun z => (List.mem_append.mp z).elim o.2 fun z => o.1 (.inr (by simpa using z))⟩, ob, d⟩)
  | .kst xs, _, h => by
    unfold RV at *
    obtain ⟨a, vs, e, k, h2⟩ := h
    exact ⟨a, vs, e, k, RVs.held xs h2⟩
  | .lst xs, _, h => by
    unfold RV at *
    obtain ⟨a, vs, e, o, d, h2⟩ := h
    exact ⟨a, vs, e, ⟨fun z => o.1 (.inl z), fun z => (List.mem_append.mp z).elim o.2 fun z => o.1 (.inr (by simpa using z))⟩, d, RVs.held xs h2⟩
  | .ins c ws, _, h => by
    unfold RV at *
    obtain ⟨a, dx, fs, e, o, d, n, h2⟩ := h
    exact ⟨a, dx, fs, e, ⟨fun z => o.1 (.inl z), fun z => (List.mem_append.mp z).elim o.2 fun z => o.1 (.inr (by simpa using z))⟩, d, n, RVs.held ws h2⟩
  | .dtt ks ws, _, h => by
    unfold RV at *
    obtain ⟨a, kvs, e, o, d, nm, h2⟩ := h
    exact ⟨a, kvs, e, ⟨fun z => o.1 (.inl z), fun z => (List.mem_append.mp z).elim o.2 fun z => o.1 (.inr (by simpa using z))⟩, d, nm, RVs.held ws h2⟩
  | .exn c ws, _, h => by
    unfold RV at *
    obtain ⟨a, dx, fs, ex, e, o, d, n, h2⟩ := h
    exact ⟨a, dx, fs, ex, e, ⟨fun z => o.1 (.inl z), fun z => (List.mem_append.mp z).elim o.2 fun z => o.1 (.inr (by simpa using z))⟩, d, n, RVs.held ws h2⟩
  | .dct ks ws, _, h => by
    unfold RV at *
    obtain ⟨a, vs, e, o, d, h2⟩ := h
    exact ⟨a, vs, e, ⟨fun z => o.1 (.inl z), fun z => (List.mem_append.mp z).elim o.2 fun z => o.1 (.inr (by simpa using z))⟩, d, RVs.held ws h2⟩
  | .glo _, _, h => by unfold RV at *; exact h
  | .opq, _, _ => by unfold RV; trivial
  | .ftup xs, _, h => by
    unfold RV at *
    obtain ⟨a, vs, ob, e, kt, dn, o, d, h2⟩ := h
    exact ⟨a, vs, ob, e, kt, dn, ⟨fun z => o.1 (.inl z), fun z => (List.mem_append.mp z).elim o.2 fun z => o.1 (.inr (by simpa using z))⟩, d, RVs.held xs h2⟩
  | .clo0 l, _, h => by
    unfold RV at *
    obtain ⟨f, c, F, φ, ψ, cl, e, z, o1, d1, o2, d2⟩ := h
    exact ⟨f, c, F, φ, ψ, cl, e, z, ⟨fun z => o1.1 (.inl z), fun z => (List.mem_append.mp z).elim o1.2 fun z => o1.1 (.inr (by simpa using z))⟩, d1, ⟨fun z => o2.1 (.inl z), fun z => (List.mem_append.mp z).elim o2.2 fun z => o2.1 (.inr (by simpa using z))⟩, d2⟩
  | .clo l xs, _, h => by
    unfold RV at *
    obtain ⟨f, c, F, φ, ψ, cl, vs, e, z, o1, d1, o2, d2, ct, h2⟩ := h
    exact ⟨f, c, F, φ, ψ, cl, vs, e, z, ⟨fun z => o1.1 (.inl z), fun z => (List.mem_append.mp z).elim o1.2 fun z => o1.1 (.inr (by simpa using z))⟩, d1, ⟨fun z => o2.1 (.inl z), fun z => (List.mem_append.mp z).elim o2.2 fun z => o2.1 (.inr (by simpa using z))⟩, d2, ct.imp (fun a ob o d => ⟨⟨fun z => o.1 (.inl z), fun z => (List.mem_append.mp z).elim o.2 fun z => o.1 (.inr (by simpa using z))⟩, d⟩), RVs.held xs h2⟩
  | .lam l, _, h => by
    unfold RV at *
    obtain ⟨f, c, F, φ, ψ, e, z, o1, d1, o2, d2⟩ := h
    exact ⟨f, c, F, φ, ψ, e, z, ⟨fun z => o1.1 (.inl z), fun z => (List.mem_append.mp z).elim o1.2 fun z => o1.1 (.inr (by simpa using z))⟩, d1, ⟨fun z => o2.1 (.inl z), fun z => (List.mem_append.mp z).elim o2.2 fun z => o2.1 (.inr (by simpa using z))⟩, d2⟩
  | .ref i, _, h => by
    unfold RV at *
    obtain ⟨a, h1, h2⟩ := h
    exact ⟨a, by rw [List.getElem?_append_left (List.getElem?_eq_some_iff.mp h1).1]; exact h1, h2⟩
theorem RVs.held {av : Av} {r : List Addr} {H : Hp} {p : Addr} : ∀ (xs : List PV) {vs : List V}, RVs T (fun a => av a ∨ a = p) r H xs vs → RVs T av (r ++ [p]) H xs vs
  | [], _, h => by unfold RVs at *; exact h
  | x :: xs, _, h => by
    unfold RVs at *
    obtain ⟨v, ws, e, h1, h2⟩ := h
    exact ⟨v, ws, e, RV.held x h1, RVs.held xs h2⟩
end
variable {av : Av} {r : List Addr} {H : Hp} {p : Addr} {o : HO} {m : Mem}
theorem RO.away (hp : H p = none) : ∀ {x : MO} {a : Addr}, RO T av r H x a → RO T (fun a => av a ∨ a = p) r (upd H p o) x a
  | .lst xs, a, ⟨vs, h1, h2⟩ => ⟨vs, by rw [upd_ne (fun z => by rw [z, hp] at h1; cases h1)]; exact h1, h2.away hp⟩
  | .ins c ws, a, ⟨dx, fs, h1, h2, h3, h4⟩ => ⟨dx, fs, by rw [upd_ne (fun z => by rw [z, hp] at h1; cases h1)]; exact h1, h2, h3.away hp, h4⟩
  | .dtt ks ws, a, ⟨kvs, h1, h2, h3⟩ => ⟨kvs, by rw [upd_ne (fun z => by rw [z, hp] at h1; cases h1)]; exact h1, h2, h3.away hp⟩
  | .dct ks ws, a, ⟨vs, h1, h2⟩ => ⟨vs, dm_upd (fun z => soft hp (z ▸ dm_some h1)) h1, h2.away hp⟩
  | .dnn ks ws, a, ⟨xs, vs, h1, h2, h3, h4, h5⟩ => ⟨xs, vs, by rw [upd_ne (fun z => by rw [z, hp] at h1; cases h1)]; exact h1, h2, h3.away hp, h4.away hp, h5⟩
theorem RO.near : ∀ {x : MO} {a : Addr}, RO T (fun a => av a ∨ a = p) r H x a → RO T av r H x a
  | .lst xs, a, ⟨vs, h1, h2⟩ => ⟨vs, h1, h2.near⟩
  | .ins c ws, a, ⟨dx, fs, h1, h2, h3, h4⟩ => ⟨dx, fs, h1, h2, h3.near, h4⟩
  | .dtt ks ws, a, ⟨kvs, h1, h2, h3⟩ => ⟨kvs, h1, h2, h3.near⟩
  | .dct ks ws, a, ⟨vs, h1, h2⟩ => ⟨vs, h1, h2.near⟩
  | .dnn ks ws, a, ⟨xs, vs, h1, h2, h3, h4, h5⟩ => ⟨xs, vs, h1, h2, h3.near, h4.near, h5⟩
theorem RO.held : ∀ {x : MO} {a : Addr}, RO T (fun a => av a ∨ a = p) r H x a → RO T av (r ++ [p]) H x a
  | .lst xs, a, ⟨vs, h1, h2⟩ => ⟨vs, h1, h2.held⟩
  | .ins c ws, a, ⟨dx, fs, h1, h2, h3, h4⟩ => ⟨dx, fs, h1, h2, h3.held, h4⟩
  | .dtt ks ws, a, ⟨kvs, h1, h2, h3⟩ => ⟨kvs, h1, h2, h3.held⟩
  | .dct ks ws, a, ⟨vs, h1, h2⟩ => ⟨vs, h1, h2.held⟩
  | .dnn ks ws, a, ⟨xs, vs, h1, h2, h3, h4, h5⟩ => ⟨xs, vs, h1, h2, h3.held, h4.held, h5⟩
theorem RM.away (hp : H p = none) (h : RM T av r H m) (ho : nTbl o := by trivial) (hu : nTup o := by trivial) : RM T (fun a => av a ∨ a = p) r (upd H p o) m :=
  ⟨h.len, h.nd, fun i x a h1 h2 => (h.ob i x a h1 h2).away hp, h.tb.ext fun b u e => by rw [upd_ne (fun z => by rw [z, hp] at e; cases e)]; exact e, fun a ha => by
    by_cases z : a = p
    · subst z; exact ⟨o, upd_same, ho⟩
    · obtain ⟨u, e, t⟩ := h.th a (ha.elim (fun q => q.elim .inl fun y => absurd y z) .inr)
      exact ⟨u, by rw [upd_ne z]; exact e, t⟩, fun a ha vs e => by
    by_cases z : a = p
    · subst z
      rw [upd_same] at e
      cases e
      exact hu
    · rw [upd_ne z] at e
      exact h.nt a (ha.elim id fun y => absurd y z) vs e⟩
theorem RM.near (h : RM T (fun a => av a ∨ a = p) r H m) : RM T av r H m :=
  ⟨h.len, h.nd, fun i x a h1 h2 => (h.ob i x a h1 h2).near, h.tb, fun a ha => h.th a (ha.elim (fun q => .inl (.inl q)) .inr), fun a ha => h.nt a (.inl ha)⟩
theorem RM.pass (hp : H p = none) (h : RM T av r H m) (ho : nTbl o := by trivial) : RM T av r (upd H p o) m :=
  ⟨h.len, h.nd, fun i x a h1 h2 => ((h.ob i x a h1 h2).away hp).near, h.tb.ext fun b u e => by rw [upd_ne (fun z => by rw [z, hp] at e; cases e)]; exact e, fun a ha => by
    obtain ⟨u, e, t⟩ := h.th a ha
    exact ⟨u, by rw [upd_ne (fun z => by rw [z, hp] at e; cases e)]; exact e, t⟩, fun a ha vs e => by
    obtain ⟨u, e2, _⟩ := h.th a (.inl ha)
    rw [upd_ne (fun z => by rw [z, hp] at e2; cases e2)] at e
    exact h.nt a ha vs e⟩
theorem nd_code {P : Program} {w : World} {p c : Addr} {xs : List (NestedKey × Addr × Value)} {q : Str} : HO.ext (NDict P w p xs) ≠ LamX.CodeO c q := fun z => by
  unfold LamX.CodeO at z
  injection z with z
  have g : ∃ (oc : Obj) (vs : Array Value) (t : Tok), ({ objs := Array.replicate (c + 1) { cls := .none, data := .fields #[.none, .str q 0] } } : Heap).get? c = some oc ∧ oc.data = .fields vs ∧ vs[1]? = some (.str q t) :=
    ⟨_, _, 0, by
      unfold Heap.get?
      rw [Array.getElem?_replicate, if_pos (Nat.lt_succ_self c)], rfl, rfl⟩
  have f : NDict P w p xs { objs := Array.replicate (c + 1) { cls := .none, data := .fields #[.none, .str q 0] } } := by rw [z]; exact g
  obtain ⟨_, o, es, ep, e1, _, e2, _⟩ := f
  unfold Heap.get? at e1
  rw [Array.getElem?_replicate] at e1
  by_cases y : p < c + 1
  · rw [if_pos y] at e1
    cases e1
    cases e2
  · rw [if_neg y] at e1
    cases e1
theorem RM.rntC (h : RM T av r H m) {a : Addr} (ha : a ∈ r) (u : HO) (e : H a = some u) : nTup u := by
  obtain ⟨i, hi⟩ := List.getElem?_of_mem ha
  have lt : i < m.length := by rw [← h.len]; exact (List.getElem?_eq_some_iff.mp hi).1
  have q := h.ob i _ a (List.getElem?_eq_getElem lt) hi
  generalize m[i] = o at q
  cases o with
  | lst xs => obtain ⟨us, h1, _⟩ := q; rw [e] at h1; cases h1; trivial
  | ins c ws => obtain ⟨dx, fs, h1, _⟩ := q; rw [e] at h1; cases h1; trivial
  | dtt ks ws => obtain ⟨kvs, h1, _⟩ := q; rw [e] at h1; cases h1; trivial
  | dnn ks ws => obtain ⟨xs, us, h1, _⟩ := q; rw [e] at h1; cases h1; exact fun _ _ => nd_code
  | dct ks ws =>
    obtain ⟨us, h1, _⟩ := q
    rcases h1 with ⟨_, d, _⟩ | ⟨_, d, _⟩ <;> (rw [e] at d; cases d; trivial)
theorem RM.held {x : MO} (h : RM T (fun a => av a ∨ a = p) r H m) (n : p ∉ r) (ho : RO T (fun a => av a ∨ a = p) r H x p) : RM T av (r ++ [p]) H (m ++ [x]) := by
  refine ⟨by rw [List.length_append, List.length_append, h.len]; rfl, ?_, fun i y a h1 h2 => ?_, h.tb, fun a ha => ?_, fun a ha => h.nt a (.inl ha)⟩
  · rw [List.nodup_append]
    exact ⟨h.nd, by simp, fun y hy z hz => by simp at hz; subst hz; exact fun e => n (e ▸ hy)⟩
  · by_cases hi : i < m.length
    · rw [List.getElem?_append_left hi] at h1
      rw [List.getElem?_append_left (by rw [h.len]; exact hi)] at h2
      exact (h.ob i y a h1 h2).held
    · by_cases he : i = m.length
      · subst he
        rw [List.getElem?_append_right (Nat.le_refl _)] at h1
        rw [List.getElem?_append_right (by rw [h.len]; exact Nat.le_refl _), h.len] at h2
        simp at h1 h2
        subst h1 h2
        exact ho.held
      · rw [List.getElem?_eq_none (by rw [List.length_append]; simp; omega)] at h1
        cases h1
  · rcases ha with q | q
    · exact h.th a (.inl (.inl q))
    · rcases List.mem_append.mp q with q | q
      · exact h.th a (.inr q)
      · exact h.th a (.inl (.inr (by simpa using q)))
theorem grow_upd (hp : H p = none) : Grow r H r (upd H p o) :=
  have f : ∀ b u, H b = some u → upd H p o b = some u := fun b u e => by rw [upd_ne (fun z => by rw [z, hp] at e; cases e)]; exact e
  ⟨⟨[], by simp, by simp⟩, fun b u e _ _ => f b u e, fun b ⟨u, e, t⟩ => ⟨u, f b u e, t⟩⟩
theorem grow_held {r' : List Addr} {H' : Hp} (g : Grow r H r' H') (hp : ¬ Hard H p) : Grow r H (r' ++ [p]) H' := by
  obtain ⟨more, e, f⟩ := g.ext
  exact ⟨⟨more ++ [p], by rw [e, List.append_assoc], fun a ha => (List.mem_append.mp ha).elim (f a) fun z => by simp at z; subst z; exact hp⟩, g.keep, g.there⟩
noncomputable def szOk (n : Nat) : Bool := Nat.ble n 1000000
theorem szOk_le {n : Nat} (h : szOk n = true) : n ≤ sizeLine := Nat.le_trans (Nat.le_of_ble_eq_true h) (by rw [sizeLine_eq]; decide)
theorem szOk_lt {n : Nat} (h : szOk n = true) : n < sizeLine := Nat.lt_of_le_of_lt (Nat.le_of_ble_eq_true h) (by rw [sizeLine_eq]; decide)
noncomputable def mTup (ma : MA) : ME := fun e m => (ma e m).bind fun vs m1 => if szOk vs.length then .ok (.tup vs) m1 else .bad
theorem RM.fresh (h : RM T av r H m) (hp : H p = none) : p ∉ r := fun z => soft hp (h.th p (.inr z))
theorem RM.freshA (h : RM T av r H m) (hp : H p = none) : ¬ av p := fun z => soft hp (h.th p (.inl z))
theorem RM.freshB (h : RM T av r H m) (hp : ¬ Hard H p) : ¬ av p := fun z => hp (h.th p (.inl z))
theorem se_tup {es : List Expr} {x1} {mr : MA} (ha : SA X T W es mr) : SE X T W (.Tuple es x1 pos) (mTup mr) :=
  ⟨PE.imp (pe_tup ha.pa) fun σ H Q ⟨av, r, e, m, re, rm, h⟩ =>
    ⟨av, r, e, m, re, rm, okR_imp (okR_bind h) fun vs m1 h r1 H1 ws g1 rm1 rvs => by
      split at h
      · rename_i hz
        refine ⟨by rw [rvs.length]; exact szOk_le hz, fun p hp => ?_⟩
        have g2 : Grow r1 H1 r1 (upd H1 p (.tup ws)) := grow_upd hp
        refine h r1 _ (.ref p) (g1.trans g2) (rm1.pass hp) ?_
        unfold RV
        exact ⟨p, ws, rfl, .inl ⟨⟨rm1.freshA hp, rm1.fresh hp⟩, upd_same⟩, rvs.grow g2⟩
      · exact h.elim⟩⟩

noncomputable def mLstF (ma : MA) : MA := fun e m => (ma e m).bind fun vs m1 => if szOk vs.length then .ok vs m1 else .bad
theorem sf_lst {es : List Expr} {mr : MA} (ha : SA X T W es mr) : SF X T W (.List es pos) (mLstF mr) :=
  ⟨PE.imp (pe_lst ha.pa) fun σ H Q ⟨av, r, e, m, re, rm, h⟩ =>
    ⟨av, r, e, m, re, rm, okR_imp (okR_bind h) fun vs m1 h r1 H1 ws g1 rm1 rvs => by
      split at h
      · rename_i hz
        exact ⟨by rw [rvs.length]; exact szOk_le hz, fun p hp => h r1 _ p ws (g1.trans (grow_upd hp)) (g1.none (soft hp)) (rm1.fresh hp) upd_same (rm1.away hp) (rvs.away hp)⟩
      · exact h.elim⟩⟩

noncomputable def mL (ma : MA) : ME := fun e m => (ma e m).bind fun vs m1 => .ok (.lst vs) m1
noncomputable def mN (ma : MA) : ME := fun e m => (ma e m).bind fun vs m1 => .ok (.ref m1.length) (m1 ++ [.lst vs])
theorem se_lst {mr : MA} (ha : SF X T W a mr) : SE X T W a (mL mr) :=
  ⟨PE.imp ha.pe fun σ H Q ⟨av, r, e, m, re, rm, h⟩ =>
    ⟨av, r, e, m, re, rm, okR_imp (okR_bind h) fun vs m1 h r1 H1 p ws g1 hp np hl rm1 rvs =>
      h r1 H1 (.ref p) g1 rm1.near (by unfold RV; exact ⟨p, ws, rfl, ⟨rm.freshB hp, np⟩, .inl hl, rvs.near⟩)⟩⟩

theorem se_new {mr : MA} (ha : SF X T W a mr) : SE X T W a (mN mr) :=
  ⟨PE.imp ha.pe fun σ H Q ⟨av, r, e, m, re, rm, h⟩ =>
    ⟨av, r, e, m, re, rm, okR_imp (okR_bind h) fun vs m1 h r1 H1 p ws g1 hp np hl rm1 rvs =>
      h (r1 ++ [p]) H1 (.ref p) (grow_held g1 hp) (rm1.held np ⟨ws, hl, rvs⟩) (by unfold RV; exact ⟨p, by rw [← rm1.len]; simp, rfl⟩)⟩⟩

end M

namespace M
open PySem PySem.Spec PyProof.Rows L2
variable {X : Cx} {T : Tx} {W : WX} {a b c : Expr} {ma mb mc : ME} {pos : Pos}

noncomputable def lstOf : PV → Mem → Option (List PV)
  | .lst xs, _ => some xs
  | .ref i, m => match m[i]? with
    | some (.lst xs) => some xs
    | _ => none
  | _, _ => none
theorem lstOf_ok {av : Av} {r : List Addr} {H : Hp} {m : Mem} {x : PV} {v : V} {xs : List PV} (rm : RM T av r H m) (rv : RV T av r H x v) (h : lstOf x m = some xs) : ∃ a vs, v = .ref a ∧ Rd H a (.lst vs) ∧ RVs T av r H xs vs := by
  cases x <;> simp only [lstOf] at h <;> try cases h
  · unfold RV at rv
    obtain ⟨a, vs, e, _, d, h2⟩ := rv
    exact ⟨a, vs, e, d, h2⟩
  · rename_i i
    split at h
    · rename_i ys hy
      cases h
      unfold RV at rv
      obtain ⟨a, h1, e⟩ := rv
      obtain ⟨vs, h2, h3⟩ := rm.ob i _ a hy h1
      exact ⟨a, vs, e, .inl h2, h3⟩
    · cases h
theorem tup_ok (hK : X.K = T.K) {av : Av} {r : List Addr} {H : Hp} {xs : List PV} {v : V} (rv : RV T av r H (.tup xs) v) : ∃ a vs, v = .ref a ∧ SqT X.K H a vs ∧ RVs T av r H xs vs := by
  unfold RV at rv
  obtain ⟨a, vs, e, h1, h2⟩ := rv
  refine ⟨a, vs, e, ?_, h2⟩
  rcases h1 with ⟨_, d⟩ | k | ⟨_, _, ob, d⟩
  · exact .inl (.inl d)
  · exact .inr (by rw [hK]; exact k.2)
  · exact .inl (.inr ⟨ob, d⟩)
theorem kst_ok (hK : X.K = T.K) {av : Av} {r : List Addr} {H : Hp} {xs : List PV} {v : V} (rv : RV T av r H (.kst xs) v) : ∃ a vs, v = .ref a ∧ SqL X.K H a vs ∧ RVs T av r H xs vs := by
  unfold RV at rv
  obtain ⟨a, vs, e, k, h⟩ := rv
  exact ⟨a, vs, e, .inr (by rw [hK]; exact k), h⟩
theorem RV.int' {av : Av} {r : List Addr} {H : Hp} {i : Int} {v : V} (h : RV T av r H (.int i) v) : v = .int i := by unfold RV at h; exact h
theorem RV.bl' {av : Av} {r : List Addr} {H : Hp} {i : Bool} {v : V} (h : RV T av r H (.bl i) v) : v = .bl i := by unfold RV at h; exact h
theorem RV.str' {av : Av} {r : List Addr} {H : Hp} {i : Str} {v : V} (h : RV T av r H (.str i) v) : v = .str i := by unfold RV at h; exact h
theorem RV.non' {av : Av} {r : List Addr} {H : Hp} {v : V} (h : RV T av r H .non v) : v = .non := by unfold RV at h; exact h
theorem rv_int {av : Av} {r : List Addr} {H : Hp} {i : Int} : RV T av r H (.int i) (.int i) := by unfold RV; rfl
theorem rv_bl {av : Av} {r : List Addr} {H : Hp} {i : Bool} : RV T av r H (.bl i) (.bl i) := by unfold RV; rfl
theorem rv_str {av : Av} {r : List Addr} {H : Hp} {i : Str} : RV T av r H (.str i) (.str i) := by unfold RV; rfl
theorem rv_non {av : Av} {r : List Addr} {H : Hp} : RV T av r H .non .non := by unfold RV; rfl

noncomputable def OpM (X : Cx) (T : Tx) (F : Value → Value → Sem Value) (f : PV → PV → Mem → Option PV) : Prop :=
  ∃ rd : R2, OpR X F rd ∧ ∀ {av : Av} {r : List Addr} {H : Hp} {m : Mem} {x y z : PV} {v w : V} {Q : VK}, RM T av r H m → RV T av r H x v → RV T av r H y w → f x y m = some z → KE T av r H Q z m → rd v w H Q
noncomputable def OpF (X : Cx) (T : Tx) (F : Value → Value → Sem Value) (f : PV → PV → Mem → Option (List PV)) : Prop :=
  ∃ rd : R2, OpR X F rd ∧ ∀ {av : Av} {r : List Addr} {H : Hp} {m : Mem} {x y : PV} {z : List PV} {v w : V} {Q : VK}, RM T av r H m → RV T av r H x v → RV T av r H y w → f x y m = some z → KF T av r H Q z m → rd v w H Q
noncomputable def oP {s : Type} (o : Option s) (m : Mem) : Res s := match o with
  | some z => .ok z m
  | none => .bad
theorem okR_oP {T : Tx} {av : Av} {r : List Addr} {H : Hp} {W : Value → Option Addr → Hp → Prop} {s : Type} {K : s → Mem → Prop} {o : Option s} {m : Mem} (h : okR T av r H W K (oP o m)) : ∃ z, o = some z ∧ K z m := by
  cases o with
  | none => exact h.elim
  | some z => exact ⟨z, rfl, h⟩
noncomputable def mBin (f : PV → PV → Mem → Option PV) (ma mb : ME) : ME := fun e m => (ma e m).bind fun x m1 => (mb e m1).bind fun y m2 => oP (f x y m2) m2
noncomputable def mBinF (f : PV → PV → Mem → Option (List PV)) (ma mb : ME) : MA := fun e m => (ma e m).bind fun x m1 => (mb e m1).bind fun y m2 => oP (f x y m2) m2
theorem se_bin {op : Operator} {f : PV → PV → Mem → Option PV} (ho : OpM X T (binaryOp op) f) (ha : SE X T W a ma) (hb : SE X T W b mb) : SE X T W (.BinOp a op b pos) (mBin f ma mb) := by
  obtain ⟨rd, h1, h2⟩ := ho
  exact ⟨PE.imp (pe_op h1 ha.pe hb.pe) fun σ H Q ⟨av, r, e, m, re, rm, h⟩ =>
    ⟨av, r, e, m, re, rm, okR_imp (okR_bind h) fun x m1 h r1 H1 v g1 rm1 rv =>
      ⟨av, r1, e, m1, re.grow g1, rm1, okR_grow g1 (fun y m2 h r2 H2 w g2 rm2 rw => by
        obtain ⟨z, hz, k⟩ := okR_oP h
        exact h2 rm2 (rv.grow g2) rw hz (KE.grow (g1.trans g2) k)) (okR_bind h)⟩⟩⟩
theorem sf_bin {op : Operator} {f : PV → PV → Mem → Option (List PV)} (ho : OpF X T (binaryOp op) f) (ha : SE X T W a ma) (hb : SE X T W b mb) : SF X T W (.BinOp a op b pos) (mBinF f ma mb) := by
  obtain ⟨rd, h1, h2⟩ := ho
  exact ⟨PE.imp (pe_op h1 ha.pe hb.pe) fun σ H Q ⟨av, r, e, m, re, rm, h⟩ =>
    ⟨av, r, e, m, re, rm, okR_imp (okR_bind h) fun x m1 h r1 H1 v g1 rm1 rv =>
      ⟨av, r1, e, m1, re.grow g1, rm1, okR_grow g1 (fun y m2 h r2 H2 w g2 rm2 rw => by
        obtain ⟨z, hz, k⟩ := okR_oP h
        exact h2 rm2 (rv.grow g2) rw hz (KF.grow (g1.trans g2) k)) (okR_bind h)⟩⟩⟩
theorem se_cmp {op : CmpOp} {f : PV → PV → Mem → Option PV} (ho : OpM X T (compareOp op) f) (ha : SE X T W a ma) (hb : SE X T W b mb) (hm : behindInMarks op b = false) : SE X T W (.Compare a [op] [b] pos) (mBin f ma mb) := by
  obtain ⟨rd, h1, h2⟩ := ho
  exact ⟨PE.imp (pe_cmpR h1 ha.pe hb.pe hm) fun σ H Q ⟨av, r, e, m, re, rm, h⟩ =>
    ⟨av, r, e, m, re, rm, okR_imp (okR_bind h) fun x m1 h r1 H1 v g1 rm1 rv =>
      ⟨av, r1, e, m1, re.grow g1, rm1, okR_grow g1 (fun y m2 h r2 H2 w g2 rm2 rw => by
        obtain ⟨z, hz, k⟩ := okR_oP h
        exact h2 rm2 (rv.grow g2) rw hz (KE.grow (g1.trans g2) k)) (okR_bind h)⟩⟩⟩
noncomputable def orF {s : Type} (f g : PV → PV → Mem → Option s) : PV → PV → Mem → Option s := fun x y m => match f x y m with
  | some z => some z
  | none => g x y m
theorem OpM.or {F : Value → Value → Sem Value} {f g : PV → PV → Mem → Option PV} (h : OpM X T F f) (h' : OpM X T F g) : OpM X T F (orF f g) := by
  obtain ⟨r1, o1, k1⟩ := h
  obtain ⟨r2, o2, k2⟩ := h'
  refine ⟨_, o1.or o2, fun {av r H m x y z v w Q} rm rv rw e k => ?_⟩
  unfold orF at e
  split at e
  · rename_i z' hz
    exact .inl (k1 rm rv rw (hz.trans e) k)
  · exact .inr (k2 rm rv rw e k)
noncomputable def fI (c : Int → Int → Bool) (g : Int → Int → PV) : PV → PV → Mem → Option PV := fun x y _ => match x, y with
  | .int i, .int j => if c i j then some (g i j) else none
  | _, _ => none
theorem fI_some {c : Int → Int → Bool} {g : Int → Int → PV} {x y z : PV} {m : Mem} (h : fI c g x y m = some z) : ∃ i j, x = .int i ∧ y = .int j ∧ c i j = true ∧ z = g i j := by
  unfold fI at h
  split at h
  · rename_i i j
    split at h
    · rename_i hc
      exact ⟨i, j, rfl, rfl, hc, (Option.some.inj h).symm⟩
    · cases h
  · cases h
theorem opm_I {F : Value → Value → Sem Value} {C : Int → Int → Prop} {c : Int → Int → Bool} {g : Int → Int → V} {g' : Int → Int → PV} (ho : OpR X F (rI C g)) (hc : ∀ i j, c i j = true → C i j) (hg : ∀ i j av r H, RV T av r H (g' i j) (g i j)) : OpM X T F (fI c g') :=
  ⟨_, ho, fun {av r H m x y z v w Q} rm rv rw e k => by
    obtain ⟨i, j, rfl, rfl, hk, rfl⟩ := fI_some e
    exact ⟨i, j, rv.int', rw.int', hc i j hk, k r H _ .refl rm (hg _ _ _ _ _)⟩⟩
theorem opm_I0 {F : Value → Value → Sem Value} {g : Int → Int → V} {g' : Int → Int → PV} (ho : OpR X F (rI0 g)) (hg : ∀ i j av r H, RV T av r H (g' i j) (g i j)) : OpM X T F (fI (fun _ _ => true) g') :=
  ⟨_, ho, fun {av r H m x y z v w Q} rm rv rw e k => by
    obtain ⟨i, j, rfl, rfl, hk, rfl⟩ := fI_some e
    exact ⟨i, j, rv.int', rw.int', k r H _ .refl rm (hg _ _ _ _ _)⟩⟩
noncomputable def fAddI := fI (fun _ _ => true) fun i j => .int (i + j)
noncomputable def fSubI := fI (fun _ _ => true) fun i j => .int (i - j)
noncomputable def fModI := fI (fun _ j => decide (0 < j)) fun i j => .int (i % j)
theorem om_addI : OpM X T (binaryOp .Add) fAddI := opm_I0 op_add fun _ _ _ _ _ => rv_int
theorem om_subI : OpM X T (binaryOp .Sub) fSubI := opm_I0 op_sub fun _ _ _ _ _ => rv_int
theorem om_modI : OpM X T (binaryOp .Mod) fModI := opm_I op_mod (fun i j h => of_decide_eq_true h) fun _ _ _ _ _ => rv_int
noncomputable def fLtI := fI (fun _ _ => true) fun i j => .bl (decide (i < j))
noncomputable def fLeI := fI (fun _ _ => true) fun i j => .bl (decide (i ≤ j))
noncomputable def fGtI := fI (fun _ _ => true) fun i j => .bl (decide (j < i))
noncomputable def fGeI := fI (fun _ _ => true) fun i j => .bl (decide (j ≤ i))
theorem om_ltI : OpM X T (compareOp .Lt) fLtI := opm_I0 op_lt fun _ _ _ _ _ => rv_bl
theorem om_leI : OpM X T (compareOp .LtE) fLeI := opm_I0 op_le fun _ _ _ _ _ => rv_bl
theorem om_gtI : OpM X T (compareOp .Gt) fGtI := opm_I0 op_gt fun _ _ _ _ _ => rv_bl
theorem om_geI : OpM X T (compareOp .GtE) fGeI := opm_I0 op_ge fun _ _ _ _ _ => rv_bl
noncomputable def fCatT : PV → PV → Mem → Option PV := fun x y _ => match x, y with
  | .tup xs, .tup ys => if szOk (xs.length + ys.length) then some (.tup (xs ++ ys)) else none
  | _, _ => none
theorem RVs.append {av : Av} {r : List Addr} {H : Hp} : ∀ {xs ys : List PV} {vs ws : List V}, RVs T av r H xs vs → RVs T av r H ys ws → RVs T av r H (xs ++ ys) (vs ++ ws)
  | [], _, _, _, h, h' => by unfold RVs at h; subst h; exact h'
  | x :: xs, ys, _, _, h, h' => by
    unfold RVs at h
    obtain ⟨v, us, e, h1, h2⟩ := h
    subst e
    show RVs T av r H (x :: (xs ++ ys)) _
    unfold RVs
    exact ⟨v, _, rfl, h1, RVs.append h2 h'⟩
theorem om_catT (hK : X.K = T.K) : OpM X T (binaryOp .Add) fCatT := by
  refine ⟨_, op_catA, fun {av r H m x y z v w Q} rm rv rw e k => ?_⟩
  unfold fCatT at e
  split at e
  · rename_i xs ys
    split at e
    · rename_i hz
      cases e
      obtain ⟨a, vs, rfl, ha, hv⟩ := tup_ok hK rv
      obtain ⟨b, ws, rfl, hb, hw⟩ := tup_ok hK rw
      refine ⟨a, b, vs, ws, rfl, rfl, ha, hb, by rw [hv.length, hw.length]; exact szOk_le hz, fun z => ?_, fun _ z => ?_, fun z1 z2 p hp => ?_⟩
      · have e0 : xs = [] := List.eq_nil_of_length_eq_zero (by rw [← hv.length, z]; rfl)
        subst e0
        exact k r H _ .refl rm rw
      · have e0 : ys = [] := List.eq_nil_of_length_eq_zero (by rw [← hw.length, z]; rfl)
        subst e0
        exact k r H _ .refl rm (by rw [List.append_nil]; exact rv)
      · have g2 : Grow r H r (upd H p (.tup (vs ++ ws))) := grow_upd hp
        refine k r _ _ g2 (rm.pass hp) ?_
        unfold RV
        exact ⟨p, _, rfl, .inl ⟨⟨rm.freshA hp, rm.fresh hp⟩, upd_same⟩, (hv.append hw).grow g2⟩
    · cases e
  · cases e
theorem rv_newT {av : Av} {r : List Addr} {H : Hp} {m : Mem} {p : Addr} {xs : List PV} {vs : List V} (rm : RM T av r H m) (hp : H p = none) (hv : RVs T av r H xs vs) : RV T av r (upd H p (.tup vs)) (.tup xs) (.ref p) := by
  unfold RV
  exact ⟨p, _, rfl, .inl ⟨⟨rm.freshA hp, rm.fresh hp⟩, upd_same⟩, hv.grow (grow_upd hp)⟩
theorem kf_new {av : Av} {r : List Addr} {H : Hp} {m : Mem} {p : Addr} {xs : List PV} {vs : List V} {Q : VK} (rm : RM T av r H m) (hp : H p = none) (hv : RVs T av r H xs vs) (k : KF T av r H Q xs m) : Q (.ref p) (upd H p (.lst vs)) :=
  k r _ p vs (grow_upd hp) (soft hp) (rm.fresh hp) upd_same (rm.away hp) (hv.away hp)
theorem ke_newT {av : Av} {r : List Addr} {H : Hp} {m : Mem} {p : Addr} {xs : List PV} {vs : List V} {Q : VK} (rm : RM T av r H m) (hp : H p = none) (hv : RVs T av r H xs vs) (k : KE T av r H Q (.tup xs) m) : Q (.ref p) (upd H p (.tup vs)) :=
  k r _ _ (grow_upd hp) (rm.pass hp) (rv_newT rm hp hv)
noncomputable def fCatL : PV → PV → Mem → Option (List PV) := fun x y m => match lstOf x m, lstOf y m with
  | some xs, some ys => if szOk (xs.length + ys.length) then some (xs ++ ys) else none
  | _, _ => none
theorem lstR {pins : List (Addr × Obj)} {σ : L2.St} {H : Hp} {s : Shared} {l : Addr} {xs : List V} (I : Inv X pins σ H s) (h : Rd H l (.lst xs)) : xs.length ≤ sizeLine ∧ ∃ (its : List Value) (n : Nat), Vals xs its ∧ xs.length = its.length ∧ s.heap.get? l = some { cls := .type "list", data := .seq its.toArray n } := by
  obtain ⟨z, its, n, r, e⟩ := h.ok I.hok
  exact ⟨z, its, n, r, r.length, e⟩
noncomputable def rCatL : R2 := fun x y H Q => ∃ l b xs zs, x = .ref l ∧ y = .ref b ∧ Rd H l (.lst xs) ∧ Rd H b (.lst zs) ∧ xs.length + zs.length ≤ sizeLine ∧ ∀ p, H p = none → Q (.ref p) (upd H p (.lst (xs ++ zs)))
theorem op_catL : OpR X (binaryOp .Add) rCatL := by
  intro pins s σ H x y v u Q I rx ry h
  obtain ⟨l, b, xs, zs, rfl, rfl, hH, hB, hz, q⟩ := h
  cases rx
  cases ry
  obtain ⟨z, its, n, r, hl, e⟩ := lstR I hH
  obtain ⟨z2, its2, n2, r2, hl2, e2⟩ := lstR I hB
  refine PySem.P.add_list e e2 ?_ (by rw [List.size_toArray, List.size_toArray]; omega)
  have ea : its.toArray ++ its2.toArray = (its ++ its2).toArray := by simp
  rw [ea]
  exact ⟨.ref _, _, I.lnew (t' := s.toks) (r.append r2) (by rw [List.length_append]; omega), rfl, q _ I.fresh⟩
theorem of_catL : OpF X T (binaryOp .Add) fCatL := by
  refine ⟨_, op_catL, fun {av r H m x y z v w Q} rm rv rw e k => ?_⟩
  unfold fCatL at e
  split at e
  · rename_i xs ys hx hy
    split at e
    · rename_i hz
      cases e
      obtain ⟨a, vs, rfl, ha, hv⟩ := lstOf_ok rm rv hx
      obtain ⟨b, ws, rfl, hb, hw⟩ := lstOf_ok rm rw hy
      exact ⟨a, b, vs, ws, rfl, rfl, ha, hb, by rw [hv.length, hw.length]; exact szOk_le hz, fun p hp => kf_new rm hp (hv.append hw) k⟩
    · cases e
  · cases e
noncomputable def toL (f : PV → PV → Mem → Option (List PV)) : PV → PV → Mem → Option PV := fun x y m => match f x y m with
  | some xs => some (.lst xs)
  | none => none
theorem kf_ke {av : Av} {r : List Addr} {H : Hp} {m0 m : Mem} {Q : VK} {xs : List PV} (rm : RM T av r H m0) (k : KE T av r H Q (.lst xs) m) : KF T av r H Q xs m := fun r1 H1 p vs g1 hp np hl rm1 rvs =>
  k r1 H1 (.ref p) g1 rm1.near (by unfold RV; exact ⟨p, vs, rfl, ⟨rm.freshB hp, np⟩, .inl hl, rvs.near⟩)
theorem OpF.toM {F : Value → Value → Sem Value} {f : PV → PV → Mem → Option (List PV)} (h : OpF X T F f) : OpM X T F (toL f) := by
  obtain ⟨rd, o, k⟩ := h
  refine ⟨rd, o, fun {av r H m x y z v w Q} rm rv rw e q => ?_⟩
  unfold toL at e
  split at e
  · rename_i xs hx
    cases e
    exact k rm rv rw hx (kf_ke rm q)
  · cases e
noncomputable def fCatS : PV → PV → Mem → Option PV := fun x y _ => match x, y with
  | .str a, .str b => if szOk (a.length + b.length) then some (.str (a ++ b)) else none
  | _, _ => none
theorem om_catS : OpM X T (binaryOp .Add) fCatS := by
  refine ⟨_, op_add_str, fun {av r H m x y z v w Q} rm rv rw e k => ?_⟩
  unfold fCatS at e
  split at e
  · rename_i a b
    split at e
    · rename_i hz
      cases e
      exact ⟨a, b, rv.str', rw.str', szOk_le hz, k r H _ .refl rm rv_str⟩
    · cases e
  · cases e
noncomputable def fAdd := orF fAddI (orF fCatT (orF (toL fCatL) fCatS))
theorem om_add (hK : X.K = T.K) : OpM X T (binaryOp .Add) fAdd := om_addI.or ((om_catT hK).or (of_catL.toM.or om_catS))

mutual
noncomputable def dat (m : Mem) : PV → Option PyData
  | .non => some .none
  | .bl b => some (.bool b)
  | .int i => some (.int i)
  | .str s => some (.str s)
  | .tup xs => match datAll m xs with
    | some ds => some (.tuple ds)
    | none => none
  | .lst xs => match datAll m xs with
    | some ds => some (.list ds)
    | none => none
  | _ => none
noncomputable def datAll (m : Mem) : List PV → Option (List PyData)
  | [] => some []
  | x :: xs => match dat m x, datAll m xs with
    | some d, some ds => some (d :: ds)
    | _, _ => none
end
mutual
theorem dat_ok (hK : X.K = T.K) {av : Av} {r : List Addr} {H : Hp} {m : Mem} (rm : RM T av r H m) : ∀ (x : PV) {v : V} {d : PyData}, RV T av r H x v → dat m x = some d → Dp X.K H v d
  | .non, v, d, h, e => by unfold dat at e; cases e; rw [h.non']; exact .non
  | .bl b, v, d, h, e => by unfold dat at e; cases e; rw [h.bl']; exact .bl b
  | .int i, v, d, h, e => by unfold dat at e; cases e; rw [h.int']; exact .int i
  | .str s, v, d, h, e => by unfold dat at e; cases e; rw [h.str']; exact .str s
  | .tup xs, v, d, h, e => by
    unfold dat at e
    split at e
    · rename_i ds hd
      cases e
      obtain ⟨a, vs, rfl, ha, hv⟩ := tup_ok hK h
      exact .tup ha (datAll_ok hK rm xs hv hd)
    · cases e
  | .lst xs, v, d, h, e => by
    unfold dat at e
    split at e
    · rename_i ds hd
      cases e
      unfold RV at h
      obtain ⟨a, vs, rfl, _, ha, hv⟩ := h
      exact .lst (.inl ha) (datAll_ok hK rm xs hv hd)
    · cases e
  | .ins _ _, v, d, h, e => by unfold dat at e; cases e
  | .dtt _ _, v, d, h, e => by unfold dat at e; cases e
  | .dct _ _, v, d, h, e => by unfold dat at e; cases e
  | .glo _, v, d, h, e => by unfold dat at e; cases e
  | .lam _, v, d, h, e => by unfold dat at e; cases e
  | .opq, v, d, h, e => by unfold dat at e; cases e
  | .ftup _, v, d, h, e => by unfold dat at e; cases e
  | .clo0 _, v, d, h, e => by unfold dat at e; cases e
  | .clo _ _, v, d, h, e => by unfold dat at e; cases e
  | .ref _, v, d, h, e => by unfold dat at e; cases e
  | .exn _ _, v, d, h, e => by unfold dat at e; cases e
  | .kst _, v, d, h, e => by unfold dat at e; cases e
theorem datAll_ok (hK : X.K = T.K) {av : Av} {r : List Addr} {H : Hp} {m : Mem} (rm : RM T av r H m) : ∀ (xs : List PV) {vs : List V} {ds : List PyData}, RVs T av r H xs vs → datAll m xs = some ds → DpAll X.K H vs ds
  | [], vs, ds, h, e => by
    unfold datAll at e
    unfold RVs at h
    cases e
    rw [h]
    exact .nil
  | x :: xs, vs, ds, h, e => by
    unfold datAll at e
    unfold RVs at h
    obtain ⟨v, ws, rfl, h1, h2⟩ := h
    split at e
    · rename_i d ds' hd hds
      cases e
      exact .cons (dat_ok hK rm x h1 hd) (datAll_ok hK rm xs h2 hds)
    · cases e
end
noncomputable def datM (m : Mem) : PV → Option PyData
  | .ref i => match m[i]? with
    | some (.lst xs) => match datAll m xs with
      | some ds => some (.list ds)
      | none => none
    | _ => none
  | x => dat m x
theorem datM_ok (hK : X.K = T.K) {av : Av} {r : List Addr} {H : Hp} {m : Mem} (rm : RM T av r H m) {x : PV} {v : V} {d : PyData} (h : RV T av r H x v) (e : datM m x = some d) : Dp X.K H v d := by
  unfold datM at e
  split at e
  · rename_i i
    split at e
    · rename_i xs hx
      split at e
      · rename_i ds hd
        cases e
        unfold RV at h
        obtain ⟨a, h1, rfl⟩ := h
        obtain ⟨vs, h2, h3⟩ := rm.ob i _ a hx h1
        exact .lst (.inl (.inl h2)) (datAll_ok hK rm xs h3 hd)
      · cases e
    · cases e
  · exact dat_ok hK rm x h e
noncomputable def fEqD : PV → PV → Mem → Option PV := fun x y m => match datM m x, datM m y with
  | some d, some e => if SeqAt.shaped d && SeqAt.shaped e then some (.bl (PyData.eqv d e)) else none
  | _, _ => none
noncomputable def fNeD : PV → PV → Mem → Option PV := fun x y m => match datM m x, datM m y with
  | some d, some e => if SeqAt.shaped d && SeqAt.shaped e then some (.bl (!PyData.eqv d e)) else none
  | _, _ => none
theorem om_eqD (hK : X.K = T.K) (hu : X.A.units + 64 < cLine) : OpM X T (compareOp .Eq) fEqD := by
  refine ⟨_, op_eqD hu, fun {av r H m x y z v w Q} rm rv rw e k => ?_⟩
  unfold fEqD at e
  split at e
  · rename_i d1 d2 h1 h2
    split at e
    · rename_i hs
      cases e
      rw [Bool.and_eq_true] at hs
      exact ⟨d1, d2, datM_ok hK rm rv h1, datM_ok hK rm rw h2, hs.1, hs.2, k r H _ .refl rm rv_bl⟩
    · cases e
  · cases e
theorem om_neD (hK : X.K = T.K) (hu : X.A.units + 64 < cLine) : OpM X T (compareOp .NotEq) fNeD := by
  refine ⟨_, op_neD hu, fun {av r H m x y z v w Q} rm rv rw e k => ?_⟩
  unfold fNeD at e
  split at e
  · rename_i d1 d2 h1 h2
    split at e
    · rename_i hs
      cases e
      rw [Bool.and_eq_true] at hs
      exact ⟨d1, d2, datM_ok hK rm rv h1, datM_ok hK rm rw h2, hs.1, hs.2, k r H _ .refl rm rv_bl⟩
    · cases e
  · cases e
end M

namespace M
open PySem PySem.Spec PyProof.Rows L2
variable {X : Cx} {T : Tx} {W : WX} {a b c : Expr} {ma mb mc : ME} {mt mu : MT} {pos : Pos}

noncomputable def mTb (me : ME) : MT := fun e m => (me e m).bind fun v m1 => match v with
  | .bl b => .ok b m1
  | _ => .bad
theorem okR_tb {T : Tx} {av : Av} {r : List Addr} {H : Hp} {W : Value → Option Addr → Hp → Prop} {K : Bool → Mem → Prop} {v : PV} {m : Mem} (h : okR T av r H W K (match v with
  | .bl b => .ok b m
  | _ => .bad : Res Bool)) : ∃ b, v = .bl b ∧ K b m := by
  split at h
  · exact ⟨_, rfl, h⟩
  · exact h.elim
theorem st_val (ha : SE X T W a ma) (he : ∀ whole, isTrue a X.env whole = (do let v ← whole; standAt a.pos; holding [v] (truthy v)) := by intro _; rfl) : ST X T W a (mTb ma) :=
  ⟨PT.imp (pt_val ha.pe he) fun σ H Q ⟨av, r, e, m, re, rm, h⟩ =>
    ⟨av, r, e, m, re, rm, okR_imp (okR_bind h) fun x m1 h r1 H1 v g1 rm1 rv => by
      obtain ⟨b, rfl, k⟩ := okR_tb h
      exact ⟨b, rv.bl', k r1 H1 g1 rm1⟩⟩⟩
theorem st_cmp {op : CmpOp} {f : PV → PV → Mem → Option PV} (ho : OpM X T (compareOp op) f) (ha : SE X T W a ma) (hb : SE X T W b mb) (hm : behindInMarks op b = false) : ST X T W (.Compare a [op] [b] pos) (mTb (mBin f ma mb)) := by
  obtain ⟨rd, h1, h2⟩ := ho
  exact ⟨PT.imp (pt_cmpR h1 ha.pe hb.pe hm) fun σ H Q ⟨av, r, e, m, re, rm, h⟩ =>
    ⟨av, r, e, m, re, rm, okR_imp (okR_bind (okR_bind h)) fun x m1 h r1 H1 v g1 rm1 rv =>
      ⟨av, r1, e, m1, re.grow g1, rm1, okR_grow g1 (fun y m2 h r2 H2 w g2 rm2 rw => by
        obtain ⟨z, hz, k⟩ := okR_oP h
        refine h2 rm2 (rv.grow g2) rw hz fun r3 H3 w3 g3 rm3 rw3 => ?_
        obtain ⟨b, rfl, k⟩ := okR_tb k
        exact ⟨b, rw3.bl', k r3 H3 ((g1.trans g2).trans g3) rm3⟩) (okR_bind h)⟩⟩⟩
noncomputable def mAndT (t u : MT) : MT := fun e m => (t e m).bind fun b m1 => if b then u e m1 else .ok false m1
noncomputable def mOrT (t u : MT) : MT := fun e m => (t e m).bind fun b m1 => if b then .ok true m1 else u e m1
noncomputable def mNotT (t : MT) : MT := fun e m => (t e m).bind fun b m1 => .ok (!b) m1
theorem sw_and1 (ha : ST X T W a mt) : SW X T W (.BoolOp .And [a] pos) mt := ⟨pw_and1 ha.pt⟩
theorem sw_or1 (ha : ST X T W a mt) : SW X T W (.BoolOp .Or [a] pos) mt := ⟨pw_or1 ha.pt⟩
theorem sw_and {rest : List Expr} (ha : ST X T W a mt) (hb : SW X T W (.BoolOp .And (b :: rest) pos) mu) : SW X T W (.BoolOp .And (a :: b :: rest) pos) (mAndT mt mu) :=
  ⟨PW.imp (pw_and ha.pt hb.pw) fun σ H Q ⟨av, r, e, m, re, rm, h⟩ =>
    ⟨av, r, e, m, re, rm, okR_imp (okR_bind h) fun x m1 h r1 H1 g1 rm1 => by
      cases x with
      | true => exact iteT ⟨av, r1, e, m1, re.grow g1, rm1, okR_grow g1 (fun _ _ k => k.grow g1) h⟩
      | false => exact iteF (h r1 H1 g1 rm1)⟩⟩
theorem sw_or {rest : List Expr} (ha : ST X T W a mt) (hb : SW X T W (.BoolOp .Or (b :: rest) pos) mu) : SW X T W (.BoolOp .Or (a :: b :: rest) pos) (mOrT mt mu) :=
  ⟨PW.imp (pw_or ha.pt hb.pw) fun σ H Q ⟨av, r, e, m, re, rm, h⟩ =>
    ⟨av, r, e, m, re, rm, okR_imp (okR_bind h) fun x m1 h r1 H1 g1 rm1 => by
      cases x with
      | true => exact iteT (h r1 H1 g1 rm1)
      | false => exact iteF ⟨av, r1, e, m1, re.grow g1, rm1, okR_grow g1 (fun _ _ k => k.grow g1) h⟩⟩⟩
theorem SW.t (h : SW X T W a mt) : ST X T W a mt := ⟨h.pw.pt⟩
theorem st_not (ha : ST X T W a mt) : ST X T W (.UnaryOp .Not a pos) (mNotT mt) :=
  ⟨PT.imp (pt_not ha.pt) fun σ H Q ⟨av, r, e, m, re, rm, h⟩ =>
    ⟨av, r, e, m, re, rm, okR_imp (okR_bind h) fun x m1 h r1 H1 g1 rm1 => h r1 H1 g1 rm1⟩⟩
noncomputable def mAndV (ma mb : ME) : ME := fun e m => (mTb ma e m).bind fun b m1 => if b then mb e m1 else .ok (.bl false) m1
theorem se_one {op} (h : SE X T W a ma) : SE X T W (.BoolOp op [a] pos) ma := ⟨pe_one h.pe⟩
theorem se_and {rest : List Expr} (ha : SE X T W a ma) (hb : SE X T W (.BoolOp .And (b :: rest) pos) mb) : SE X T W (.BoolOp .And (a :: b :: rest) pos) (mAndV ma mb) :=
  ⟨PE.imp (pe_and ha.pe hb.pe) fun σ H Q ⟨av, r, e, m, re, rm, h⟩ =>
    ⟨av, r, e, m, re, rm, okR_imp (okR_bind (okR_bind h)) fun x m1 h r1 H1 v g1 rm1 rv => by
      obtain ⟨b, rfl, k⟩ := okR_tb h
      refine ⟨b, rv.bl', ?_⟩
      cases b with
      | true => exact iteT ⟨av, r1, e, m1, re.grow g1, rm1, okR_grow g1 (fun _ _ k => k.grow g1) k⟩
      | false => exact iteF (k r1 H1 _ g1 rm1 rv_bl)⟩⟩
noncomputable def mIf (t : MT) (ma mb : ME) : ME := fun e m => (t e m).bind fun b m1 => if b then ma e m1 else mb e m1
theorem se_if (hc : ST X T W c mt) (ha : SE X T W a ma) (hb : SE X T W b mb) : SE X T W (.IfExp c a b pos) (mIf mt ma mb) :=
  ⟨PE.imp (pe_ifExp hc.pt ha.pe hb.pe) fun σ H Q ⟨av, r, e, m, re, rm, h⟩ =>
    ⟨av, r, e, m, re, rm, okR_imp (okR_bind h) fun x m1 h r1 H1 g1 rm1 => by
      cases x with
      | true => exact iteT ⟨av, r1, e, m1, re.grow g1, rm1, okR_grow g1 (fun _ _ k => k.grow g1) h⟩
      | false => exact iteF ⟨av, r1, e, m1, re.grow g1, rm1, okR_grow g1 (fun _ _ k => k.grow g1) h⟩⟩⟩
noncomputable def mChain (f g : PV → PV → Mem → Option PV) (ma mb mc : ME) : ME := fun e m => (ma e m).bind fun x m1 => (mb e m1).bind fun y m2 => (oP (f x y m2) m2).bind fun z m3 => match z with
  | .bl true => (mc e m3).bind fun w m4 => oP (g y w m4) m4
  | .bl false => .ok (.bl false) m3
  | _ => .bad
theorem chain_imp {op op' : CmpOp} {f g : PV → PV → Mem → Option PV} {rd rd' : R2}
    (k1 : ∀ {av : Av} {r : List Addr} {H : Hp} {m : Mem} {x y z : PV} {v w : V} {Q : VK}, RM T av r H m → RV T av r H x v → RV T av r H y w → f x y m = some z → KE T av r H Q z m → rd v w H Q)
    (k2 : ∀ {av : Av} {r : List Addr} {H : Hp} {m : Mem} {x y z : PV} {v w : V} {Q : VK}, RM T av r H m → RV T av r H x v → RV T av r H y w → g x y m = some z → KE T av r H Q z m → rd' v w H Q)
    {σ : L2.St} {H : Hp} {Q : VK} (h : tE T W (mChain f g ma mb mc) σ H Q) : tChain rd rd' (tE T W ma) (tE T W mb) (tE T W mc) σ H Q := by
  obtain ⟨av, r, e, m, re, rm, h⟩ := h
  refine ⟨av, r, e, m, re, rm, okR_imp (okR_bind h) fun x m1 h r1 H1 v g1 rm1 rv => ⟨av, r1, e, m1, re.grow g1, rm1, okR_grow g1 (fun y m2 h r2 H2 w g2 rm2 rw => ?_) (okR_bind h)⟩⟩
  obtain ⟨z, hz, k⟩ := okR_oP (okR_bind h)
  refine k1 rm2 (rv.grow g2) rw hz fun r3 H3 w3 g3 rm3 rw3 => ?_
  have g13 := (g1.trans g2).trans g3
  split at k
  · refine ⟨true, rw3.bl', iteT ⟨av, r3, e, m2, re.grow g13, rm3, okR_grow g13 (fun y' m4 h r4 H4 w4 g4 rm4 rw4 => ?_) (okR_bind k)⟩⟩
    obtain ⟨z, hz, k⟩ := okR_oP h
    exact k2 rm4 (rw.grow (g3.trans g4)) rw4 hz (k.grow (g13.trans g4))
  · exact ⟨false, rw3.bl', iteF (k r3 H3 _ g13 rm3 rv_bl)⟩
  · exact k.elim
theorem se_chain {op op' : CmpOp} {f g : PV → PV → Mem → Option PV} (ho : OpM X T (compareOp op) f) (ho' : OpM X T (compareOp op') g) (ha : SE X T W a ma) (hb : SE X T W b mb) (hc : SE X T W c mc)
    (hm : lastMarks [op, op'] [b, c] = false := by with_unfolding_all rfl) : SE X T W (.Compare a [op, op'] [b, c] pos) (mChain f g ma mb mc) := by
  obtain ⟨rd, h1, k1⟩ := ho
  obtain ⟨rd', h2, k2⟩ := ho'
  exact ⟨PE.imp (pe_chain h1 h2 ha.pe hb.pe hc.pe hm) fun σ H Q h => chain_imp (op := op) (op' := op') k1 k2 h⟩
theorem st_chain {op op' : CmpOp} {f g : PV → PV → Mem → Option PV} (ho : OpM X T (compareOp op) f) (ho' : OpM X T (compareOp op') g) (ha : SE X T W a ma) (hb : SE X T W b mb) (hc : SE X T W c mc)
    (hm : lastMarks [op, op'] [b, c] = false := by with_unfolding_all rfl) : ST X T W (.Compare a [op, op'] [b, c] pos) (mTb (mChain f g ma mb mc)) := by
  obtain ⟨rd, h1, k1⟩ := ho
  obtain ⟨rd', h2, k2⟩ := ho'
  refine ⟨PT.imp (pt_chain h1 h2 ha.pe hb.pe hc.pe hm) fun σ H Q ⟨av, r, e, m, re, rm, h⟩ => chain_imp (op := op) (op' := op') k1 k2 ⟨av, r, e, m, re, rm, okR_imp (okR_bind h) fun x m1 h r1 H1 v g1 rm1 rv => ?_⟩⟩
  obtain ⟨b, rfl, k⟩ := okR_tb h
  exact ⟨b, rv.bl', k r1 H1 g1 rm1⟩

noncomputable def ClM (X : Cx) (T : Tx) (fv : Value) (f : List PV → Mem → Option PV) : Prop :=
  ∃ rd : List V → Hp → VK → Prop, CallR X fv rd ∧ ∀ {av : Av} {r : List Addr} {H : Hp} {m : Mem} {xs : List PV} {z : PV} {vs : List V} {Q : VK}, RM T av r H m → RVs T av r H xs vs → f xs m = some z → KE T av r H Q z m → rd vs H Q
noncomputable def ClF (X : Cx) (T : Tx) (fv : Value) (f : List PV → Mem → Option (List PV)) : Prop :=
  ∃ rd : List V → Hp → VK → Prop, CallR X fv rd ∧ ∀ {av : Av} {r : List Addr} {H : Hp} {m : Mem} {xs : List PV} {z : List PV} {vs : List V} {Q : VK}, RM T av r H m → RVs T av r H xs vs → f xs m = some z → KF T av r H Q z m → rd vs H Q
noncomputable def mCl {s : Type} (f : List PV → Mem → Option s) (mr : MA) : Env → Mem → Res s := fun e m => (mr e m).bind fun xs m1 => oP (f xs m1) m1
section
variable {x : Str} {p : Pos} {es : List Expr} {mr : MA} {id Ty : String}
theorem se_callB {f : List PV → Mem → Option PV} (hc : ClM X T (.builtin id) f) (hg : Gl X x) (hm : X.mg x = none) (hv : bootBuiltins x = some (.builtin id)) (ha : SA X T W (a :: es) mr) (hn : x ≠ "__name__" := by decide) (hdb : (x == ("__debug__" : Str)) = false := by decide)
    (he : starEach (a :: es) X.env = (false, eval a X.env) :: starEach es X.env := by rfl) (hpl : (backTo pos (starEach es X.env)).any (·.1) = false := by rfl) : SE X T W (.Call (.Name x p) (a :: es) [] pos) (mCl f mr) := by
  obtain ⟨rd, h1, h2⟩ := hc
  exact ⟨PE.imp (pe_callB h1 hg hm hv ha.pa hn hdb he hpl) fun σ H Q ⟨av, r, e, m, re, rm, h⟩ =>
    ⟨av, r, e, m, re, rm, okR_imp (okR_bind h) fun xs m1 h r1 H1 vs g1 rm1 rvs => by
      obtain ⟨z, hz, k⟩ := okR_oP h
      exact h2 rm1 rvs hz (k.grow g1)⟩⟩
theorem sf_callB {f : List PV → Mem → Option (List PV)} (hc : ClF X T (.builtin id) f) (hg : Gl X x) (hm : X.mg x = none) (hv : bootBuiltins x = some (.builtin id)) (ha : SA X T W (a :: es) mr) (hn : x ≠ "__name__" := by decide) (hdb : (x == ("__debug__" : Str)) = false := by decide)
    (he : starEach (a :: es) X.env = (false, eval a X.env) :: starEach es X.env := by rfl) (hpl : (backTo pos (starEach es X.env)).any (·.1) = false := by rfl) : SF X T W (.Call (.Name x p) (a :: es) [] pos) (mCl f mr) := by
  obtain ⟨rd, h1, h2⟩ := hc
  exact ⟨PE.imp (pe_callB h1 hg hm hv ha.pa hn hdb he hpl) fun σ H Q ⟨av, r, e, m, re, rm, h⟩ =>
    ⟨av, r, e, m, re, rm, okR_imp (okR_bind h) fun xs m1 h r1 H1 vs g1 rm1 rvs => by
      obtain ⟨z, hz, k⟩ := okR_oP h
      exact h2 rm1 rvs hz (k.grow g1)⟩⟩
theorem se_callTy {f : List PV → Mem → Option PV} (hc : ClM X T (.type Ty) f) (hg : Gl X x) (hm : X.mg x = none) (hv : bootBuiltins x = some (.type Ty)) (ha : SA X T W (a :: es) mr) (hn : x ≠ "__name__" := by decide) (hdb : (x == ("__debug__" : Str)) = false := by decide)
    (he : starEach (a :: es) X.env = (false, eval a X.env) :: starEach es X.env := by rfl) (hpl : (backTo pos (starEach es X.env)).any (·.1) = false := by rfl) : SE X T W (.Call (.Name x p) (a :: es) [] pos) (mCl f mr) := by
  obtain ⟨rd, h1, h2⟩ := hc
  exact ⟨PE.imp (pe_callTy h1 hg hm hv ha.pa hn hdb he hpl) fun σ H Q ⟨av, r, e, m, re, rm, h⟩ =>
    ⟨av, r, e, m, re, rm, okR_imp (okR_bind h) fun xs m1 h r1 H1 vs g1 rm1 rvs => by
      obtain ⟨z, hz, k⟩ := okR_oP h
      exact h2 rm1 rvs hz (k.grow g1)⟩⟩
theorem sf_callTy {f : List PV → Mem → Option (List PV)} (hc : ClF X T (.type Ty) f) (hg : Gl X x) (hm : X.mg x = none) (hv : bootBuiltins x = some (.type Ty)) (ha : SA X T W (a :: es) mr) (hn : x ≠ "__name__" := by decide) (hdb : (x == ("__debug__" : Str)) = false := by decide)
    (he : starEach (a :: es) X.env = (false, eval a X.env) :: starEach es X.env := by rfl) (hpl : (backTo pos (starEach es X.env)).any (·.1) = false := by rfl) : SF X T W (.Call (.Name x p) (a :: es) [] pos) (mCl f mr) := by
  obtain ⟨rd, h1, h2⟩ := hc
  exact ⟨PE.imp (pe_callTy h1 hg hm hv ha.pa hn hdb he hpl) fun σ H Q ⟨av, r, e, m, re, rm, h⟩ =>
    ⟨av, r, e, m, re, rm, okR_imp (okR_bind h) fun xs m1 h r1 H1 vs g1 rm1 rvs => by
      obtain ⟨z, hz, k⟩ := okR_oP h
      exact h2 rm1 rvs hz (k.grow g1)⟩⟩
end
theorem rvs1 {av : Av} {r : List Addr} {H : Hp} {x : PV} {vs : List V} (h : RVs T av r H [x] vs) : ∃ v, vs = [v] ∧ RV T av r H x v := by
  unfold RVs at h
  obtain ⟨v, ws, e, h1, h2⟩ := h
  unfold RVs at h2
  subst h2
  exact ⟨v, e, h1⟩
theorem rvs2 {av : Av} {r : List Addr} {H : Hp} {x y : PV} {vs : List V} (h : RVs T av r H [x, y] vs) : ∃ v w, vs = [v, w] ∧ RV T av r H x v ∧ RV T av r H y w := by
  unfold RVs at h
  obtain ⟨v, ws, e, h1, h2⟩ := h
  obtain ⟨w, rfl, h3⟩ := rvs1 h2
  exact ⟨v, w, e, h1, h3⟩
theorem rvs_ints {av : Av} {r : List Addr} {H : Hp} : ∀ {ns : List Int} {vs : List V}, RVs T av r H (ns.map PV.int) vs → vs = ns.map V.int
  | [], _, h => by unfold RVs at h; rw [h]; rfl
  | n :: ns, _, h => by
    rw [List.map_cons] at h
    unfold RVs at h
    obtain ⟨v, ws, rfl, h1, h2⟩ := h
    rw [h1.int', rvs_ints h2]; rfl
theorem rvs_bls {av : Av} {r : List Addr} {H : Hp} : ∀ {ns : List Bool} {vs : List V}, RVs T av r H (ns.map PV.bl) vs → vs = ns.map V.bl
  | [], _, h => by unfold RVs at h; rw [h]; rfl
  | n :: ns, _, h => by
    rw [List.map_cons] at h
    unfold RVs at h
    obtain ⟨v, ws, rfl, h1, h2⟩ := h
    rw [h1.bl', rvs_bls h2]; rfl
noncomputable def intsOf : List PV → Option (List Int)
  | [] => some []
  | .int i :: xs => match intsOf xs with
    | some ns => some (i :: ns)
    | none => none
  | _ => none
noncomputable def blsOf : List PV → Option (List Bool)
  | [] => some []
  | .bl i :: xs => match blsOf xs with
    | some ns => some (i :: ns)
    | none => none
  | _ => none
theorem intsOf_eq : ∀ {xs : List PV} {ns : List Int}, intsOf xs = some ns → xs = ns.map PV.int
  | [], _, h => by cases h; rfl
  | x :: xs, ns, h => by
    unfold intsOf at h
    split at h
    · rename_i heq
      cases heq
    · rename_i i ys e
      cases e
      split at h
      · rename_i ms hm
        cases h
        rw [intsOf_eq hm]; rfl
      · cases h
    · cases h
theorem blsOf_eq : ∀ {xs : List PV} {ns : List Bool}, blsOf xs = some ns → xs = ns.map PV.bl
  | [], _, h => by cases h; rfl
  | x :: xs, ns, h => by
    unfold blsOf at h
    split at h
    · rename_i heq
      cases heq
    · rename_i i ys e
      cases e
      split at h
      · rename_i ms hm
        cases h
        rw [blsOf_eq hm]; rfl
      · cases h
    · cases h
noncomputable def cAbs : List PV → Mem → Option PV
  | [.int i], _ => some (.int (if i < 0 then -i else i))
  | _, _ => none
theorem cm_abs : ClM X T (.builtin "abs") cAbs := by
  refine ⟨_, call_abs, fun {av r H m xs z vs Q} rm rv e k => ?_⟩
  unfold cAbs at e
  split at e
  · cases e
    obtain ⟨v, rfl, h⟩ := rvs1 rv
    exact ⟨_, by rw [h.int'], k r H _ .refl rm rv_int⟩
  · cases e
noncomputable def cInt : List PV → Mem → Option PV
  | [.int i], _ => some (.int i)
  | [.bl b], _ => some (.int (if b then 1 else 0))
  | _, _ => none
theorem cm_int : ClM X T (.type "int") cInt := by
  refine ⟨_, call_int1, fun {av r H m xs z vs Q} rm rv e k => ?_⟩
  unfold cInt at e
  split at e
  · cases e
    obtain ⟨v, rfl, h⟩ := rvs1 rv
    exact .inl ⟨_, by rw [h.int'], k r H _ .refl rm rv_int⟩
  · cases e
    obtain ⟨v, rfl, h⟩ := rvs1 rv
    exact .inr ⟨_, by rw [h.bl'], k r H _ .refl rm rv_int⟩
  · cases e
noncomputable def cMax2 : List PV → Mem → Option PV
  | [.int i, .int j], _ => some (.int (if j > i then j else i))
  | _, _ => none
noncomputable def cMin2 : List PV → Mem → Option PV
  | [.int i, .int j], _ => some (.int (if j < i then j else i))
  | _, _ => none
theorem cm_max2 (hc : X.calm = true) : ClM X T (.builtin "max") cMax2 := by
  refine ⟨_, call_max2 hc, fun {av r H m xs z vs Q} rm rv e k => ?_⟩
  unfold cMax2 at e
  split at e
  · cases e
    obtain ⟨v, w, rfl, h1, h2⟩ := rvs2 rv
    exact ⟨_, _, by rw [h1.int', h2.int'], k r H _ .refl rm rv_int⟩
  · cases e
theorem cm_min2 (hc : X.calm = true) : ClM X T (.builtin "min") cMin2 := by
  refine ⟨_, call_min2 hc, fun {av r H m xs z vs Q} rm rv e k => ?_⟩
  unfold cMin2 at e
  split at e
  · cases e
    obtain ⟨v, w, rfl, h1, h2⟩ := rvs2 rv
    exact ⟨_, _, by rw [h1.int', h2.int'], k r H _ .refl rm rv_int⟩
  · cases e
noncomputable def cLen : List PV → Mem → Option PV
  | [.tup xs], _ => some (.int xs.length)
  | [.kst xs], _ => some (.int xs.length)
  | [x], m => match lstOf x m with
    | some xs => some (.int xs.length)
    | none => none
  | _, _ => none
theorem cm_len (hK : X.K = T.K) : ClM X T (.builtin "len") cLen := by
  refine ⟨_, call_len_seq, fun {av r H m xs z vs Q} rm rv e k => ?_⟩
  unfold cLen at e
  split at e
  · cases e
    obtain ⟨v, rfl, h⟩ := rvs1 rv
    obtain ⟨a, vs, rfl, ha, hv⟩ := tup_ok hK h
    exact ⟨a, vs, rfl, .inr ha, k r H _ .refl rm (by rw [hv.length]; exact rv_int)⟩
  · cases e
    obtain ⟨v, rfl, h⟩ := rvs1 rv
    obtain ⟨a, vs, rfl, ha, hv⟩ := kst_ok hK h
    exact ⟨a, vs, rfl, .inl ha, k r H _ .refl rm (by rw [hv.length]; exact rv_int)⟩
  · split at e
    · rename_i ys hy
      cases e
      obtain ⟨v, rfl, h⟩ := rvs1 rv
      obtain ⟨a, vs, rfl, ha, hv⟩ := lstOf_ok rm h hy
      exact ⟨a, vs, rfl, .inl (.inl ha), k r H _ .refl rm (by rw [hv.length]; exact rv_int)⟩
    · cases e
  · cases e
noncomputable def cAll : List PV → Mem → Option PV
  | [x], m => match lstOf x m with
    | some xs => match blsOf xs with
      | some bs => some (.bl (bs.all id))
      | none => none
    | none => none
  | _, _ => none
theorem cm_all (hc : X.calm = true) : ClM X T (.builtin "all") cAll := by
  refine ⟨_, cr_all hc, fun {av r H m xs z vs Q} rm rv e k => ?_⟩
  unfold cAll at e
  split at e
  · split at e
    · rename_i xs hx
      split at e
      · rename_i bs hb
        cases e
        obtain ⟨v, rfl, h⟩ := rvs1 rv
        obtain ⟨a, vs, rfl, ha, hv⟩ := lstOf_ok rm h hx
        rw [blsOf_eq hb] at hv
        rw [rvs_bls hv] at ha
        exact ⟨a, bs, rfl, .inl ha, k r H _ .refl rm rv_bl⟩
      · cases e
    · cases e
  · cases e
noncomputable def cTuple : List PV → Mem → Option PV
  | [.tup xs], _ => some (.tup xs)
  | [x], m => match lstOf x m with
    | some xs => some (.tup xs)
    | none => none
  | _, _ => none
theorem cm_tuple (hK : X.K = T.K) : ClM X T (.type "tuple") cTuple := by
  refine ⟨_, call_tuple_of, fun {av r H m xs z vs Q} rm rv e k => ?_⟩
  unfold cTuple at e
  split at e
  · cases e
    obtain ⟨v, rfl, h⟩ := rvs1 rv
    have h0 := h
    obtain ⟨a, vs, rfl, ha, hv⟩ := tup_ok hK h
    exact ⟨a, vs, rfl, .inr ⟨ha, k r H _ .refl rm h0⟩⟩
  · split at e
    · rename_i ys hy
      cases e
      obtain ⟨v, rfl, h⟩ := rvs1 rv
      obtain ⟨a, vs, rfl, ha, hv⟩ := lstOf_ok rm h hy
      exact ⟨a, vs, rfl, .inl ⟨.inl ha, fun p hp => ke_newT rm hp hv k⟩⟩
    · cases e
  · cases e
noncomputable def cList : List PV → Mem → Option (List PV)
  | [.tup xs], _ => some xs
  | [x], m => lstOf x m
  | _, _ => none
theorem cf_list (hK : X.K = T.K) : ClF X T (.type "list") cList := by
  refine ⟨_, call_list_of, fun {av r H m xs z vs Q} rm rv e k => ?_⟩
  unfold cList at e
  split at e
  · cases e
    obtain ⟨v, rfl, h⟩ := rvs1 rv
    obtain ⟨a, vs, rfl, ha, hv⟩ := tup_ok hK h
    exact ⟨a, vs, rfl, .inr ha, fun p hp => kf_new rm hp hv k⟩
  · obtain ⟨v, rfl, h⟩ := rvs1 rv
    obtain ⟨a, vs, rfl, ha, hv⟩ := lstOf_ok rm h e
    exact ⟨a, vs, rfl, .inl (.inl ha), fun p hp => kf_new rm hp hv k⟩
  · cases e
end M

namespace M
open PySem PySem.Spec PyProof.Rows L2
variable {X : Cx} {T : Tx} {W : WX} {a b c : Expr} {ma mb mc : ME} {mt mu : MT} {pos : Pos}

noncomputable def tagOf : PV → Mem → Option Nat
  | .non, _ => some 0
  | .bl _, _ => some 1
  | .int _, _ => some 2
  | .str _, _ => some 3
  | .tup _, _ => some 4
  | .lst _, _ => some 5
  | .dct _ _, _ => some 6
  | .ins c _, _ => some (10 + c)
  | .dtt _ _, _ => some 6
  | .glo _, _ => none
  | .lam _, _ => none
  | .opq, _ => none
  | .ftup _, _ => none
  | .clo0 _, _ => none
  | .clo _ _, _ => none
  | .exn _ _, _ => none
  | .kst _, _ => none
  | .ref i, m => match m[i]? with
    | some (.lst _) => some 5
    | some (.dct _ _) => some 6
    | some (.ins c _) => some (10 + c)
    | some (.dtt _ _) => none
    | some (.dnn _ _) => none
    | none => none
noncomputable def tagN : Nat → String
  | 0 => "NoneType" | 1 => "bool" | 2 => "int" | 3 => "str" | 4 => "tuple" | 5 => "list" | _ => "dict"
structure IsiOk (X : Cx) (T : Tx) (isF : Nat → Nat → Option Bool) : Prop where
  cls : ∀ k t b, isF k t = some b → ∃ u, ClsV (T.g k) u ∧ (t < 10 → PySem.W.kitOne X.K (.type (tagN t)) u = some b) ∧ ∀ c, t = 10 + c → C8.InsC X.K (T.cA c) ∧ PySem.W.kitOne X.K (.ref (T.cA c)) u = some b
noncomputable def KitV (X : Cx) (H : Hp) (x : V) (t : Value) : Prop := ∀ (pins : List (Addr × Obj)) (σ : L2.St) (s : Shared) (u : Value), Inv X pins σ H s → RelV x u → ∃ P : Heap → Prop, PySem.W.KitX X.K u t P ∧ P s.heap ∧ u ≠ .builtin "__main__.__loader__#opaque"
theorem KitV.of {H : Hp} {x : V} {t : Value} (h : TyX X.K H x t) : KitV X H x t := fun _ _ _ _ I r => kit_of I r h
theorem KitV.frzT {H : Hp} {a : Addr} {o : Obj} {kvs : List (List Key × V)} (e : H a = some (.frz o (.dT kvs))) : KitV X H (.ref a) (.type "dict") := fun pins σ s u I r => by
  cases (show u = Value.ref a from r)
  obtain ⟨_, _, xs, _, o, es, ep, h1, h2, _⟩ := (show ObjOk X.prog X.w H s.heap a (.frz _ (.dT kvs)) from I.hok a _ e).2
  exact ⟨_, PySem.W.kitx_dict, ⟨o, h1, h2.1⟩, fun z => nomatch z⟩
theorem KitV.frzU {H : Hp} {a : Addr} {o : Obj} {vs : List V} (e : H a = some (.frz o (.tup vs))) : KitV X H (.ref a) (.type "tuple") := fun pins σ s u I r => by
  cases (show u = Value.ref a from r)
  obtain ⟨_, _, its, _, o, h1, h2, _⟩ := (show ObjOk X.prog X.w H s.heap a (.frz _ (.tup vs)) from I.hok a _ e)
  exact ⟨_, PySem.W.kitx_tuple, ⟨o, h1, h2⟩, fun z => nomatch z⟩
theorem call_isiM : CallR X (.builtin "isinstance") (fun xs H Q => ∃ (x c : V) (t u : Value) (b : Bool), xs = [x, c] ∧ ClsV c u ∧ KitV X H x t ∧ PySem.W.kitOne X.K t u = some b ∧ Q (.bl b) H) := by
  intro pins s σ H xs us Q I r h
  obtain ⟨x, c, t, u, b, rfl, k, ty, e, q⟩ := h
  obtain ⟨u1, u2, rfl, r1, r2⟩ := vals2 r
  have e2 := k.eq r2
  subst e2
  obtain ⟨P, Z, p, hx⟩ := ty _ _ _ _ I r1
  exact PySem.W.kia_one Z I.kIn p e hx fun tk => ⟨.bl b, H, I.tok tk, rfl, q⟩
theorem tag_ok (hK : X.K = T.K) {av : Av} {r : List Addr} {H : Hp} {m : Mem} (rm : RM T av r H m) {x : PV} {v : V} {t : Nat} (h : RV T av r H x v) (e : tagOf x m = some t) (hc : ∀ c, t = 10 + c → C8.InsC X.K (T.cA c)) :
    ∃ ty, KitV X H v ty ∧ ((t < 10 ∧ ty = .type (tagN t)) ∨ ∃ c, t = 10 + c ∧ ty = .ref (T.cA c)) := by
  have ins_ok : ∀ {c : Nat} {a dx : Addr} {fs : List (Str × V)}, t = 10 + c → H a = some (.ins (T.cA c) dx fs) → KitV X H (.ref a) (.ref (T.cA c)) := fun {c a dx fs} e ha =>
    .of (.base <| TyOf.ins ha (hc c e).cl (hc c e).ha (hc c e).hn (hc c e).htk (hc c e).hm)
  have lst_ok : ∀ {a : Addr} {vs : List V}, Rd H a (.lst vs) → KitV X H (.ref a) (.type "list") := fun {a vs} ha => by
    rcases ha with ha | ⟨o, ha⟩
    · exact .of <| .base (.lst ha)
    · exact .of <| .base (.frz ha)
  have dct_ok : ∀ {a : Addr} {ks : List PV} {vs : List V}, DM H a ks vs → KitV X H (.ref a) (.type "dict") := fun {a ks vs} ha => by
    rcases ha with ⟨kvs, ha, _⟩ | ⟨kvs, ha, _⟩
    · exact .of <| .base (.dK ha)
    · exact .of <| .base (.dT ha)
  cases x with
  | non => cases e; rw [h.non']; exact ⟨_, .of <| .base .non, .inl ⟨by decide, rfl⟩⟩
  | bl b => cases e; rw [h.bl']; exact ⟨_, .of <| .base (.bl b), .inl ⟨by decide, rfl⟩⟩
  | int i => cases e; rw [h.int']; exact ⟨_, .of <| .base (.int i), .inl ⟨by decide, rfl⟩⟩
  | str s => cases e; rw [h.str']; exact ⟨_, .of <| .base (.str s), .inl ⟨by decide, rfl⟩⟩
  | tup xs =>
    cases e
    unfold RV at h
    obtain ⟨a, vs, rfl, h1, _⟩ := h
    refine ⟨.type "tuple", ?_, .inl ⟨by decide, rfl⟩⟩
    rcases h1 with ⟨_, ha⟩ | ⟨_, o, its, n, hk, hcl, _⟩ | ⟨_, _, ob, ha⟩
    · exact .of <| .base (.tup ha)
    · exact .of <| .kTuple (by rw [hK]; exact hk) hcl
    · exact .frzU ha
  | exn c ws => cases e
  | kst xs => cases e
  | lst xs =>
    cases e
    unfold RV at h
    obtain ⟨a, vs, rfl, _, ha, _⟩ := h
    exact ⟨_, lst_ok ha, .inl ⟨by decide, rfl⟩⟩
  | dct ks ws =>
    cases e
    unfold RV at h
    obtain ⟨a, vs, rfl, _, ha, _⟩ := h
    rcases ha with ⟨kvs, ha | ⟨o, ha⟩, _⟩ | ⟨kvs, ha | ⟨o, ha⟩, _⟩
    · exact ⟨_, .of <| .base (.dK ha), .inl ⟨by decide, rfl⟩⟩
    · exact ⟨_, .of <| .fDict ha, .inl ⟨by decide, rfl⟩⟩
    · exact ⟨_, .of <| .base (.dT ha), .inl ⟨by decide, rfl⟩⟩
    · exact ⟨_, .frzT ha, .inl ⟨by decide, rfl⟩⟩
  | ins c ws =>
    cases e
    unfold RV at h
    obtain ⟨a, dx, fs, rfl, _, ha, _⟩ := h
    exact ⟨_, ins_ok rfl ha, .inr ⟨c, rfl, rfl⟩⟩
  | dtt ks ws =>
    cases e
    unfold RV at h
    obtain ⟨a, kvs, rfl, _, ha | ⟨o, ha⟩, _⟩ := h
    · exact ⟨_, .of <| .base (.dT ha), .inl ⟨by decide, rfl⟩⟩
    · exact ⟨_, .frzT ha, .inl ⟨by decide, rfl⟩⟩
  | glo k => cases e
  | lam l => cases e
  | opq => cases e
  | ftup xs => cases e
  | clo0 l => cases e
  | clo l xs => cases e
  | ref i =>
    unfold RV at h
    obtain ⟨a, h1, rfl⟩ := h
    rw [tagOf] at e
    split at e
    · cases e
      rename_i xs hx
      obtain ⟨vs, ha, _⟩ := rm.ob i _ a hx h1
      exact ⟨_, lst_ok (.inl ha), .inl ⟨by decide, rfl⟩⟩
    · cases e
      rename_i xs ys hx
      obtain ⟨vs, ha, _⟩ := rm.ob i _ a hx h1
      exact ⟨_, dct_ok ha, .inl ⟨by decide, rfl⟩⟩
    · cases e
      rename_i c ws hx
      obtain ⟨dx, fs, ha, _⟩ := rm.ob i _ a hx h1
      exact ⟨_, ins_ok rfl ha, .inr ⟨c, rfl, rfl⟩⟩
    · cases e
    · cases e
    · cases e
noncomputable def cIsi (isF : Nat → Nat → Option Bool) : List PV → Mem → Option PV
  | [x, .glo k], m => match tagOf x m with
    | some t => match isF k t with
      | some b => some (.bl b)
      | none => none
    | none => none
  | _, _ => none
theorem cm_isi (hK : X.K = T.K) {isF : Nat → Nat → Option Bool} (hi : IsiOk X T isF) : ClM X T (.builtin "isinstance") (cIsi isF) := by
  refine ⟨_, call_isiM, fun {av r H m xs z vs Q} rm rv e k => ?_⟩
  unfold cIsi at e
  split at e
  · split at e
    · rename_i t ht
      split at e
      · rename_i bb hb
        cases e
        obtain ⟨v, w, rfl, h1, h2⟩ := rvs2 rv
        obtain ⟨u, hu, hf, hc⟩ := hi.cls _ _ _ hb
        obtain ⟨ty, hty, hh⟩ := tag_ok hK rm h1 ht fun c e => (hc c e).1
        unfold RV at h2
        subst h2
        refine ⟨v, _, ty, u, bb, rfl, hu, hty, ?_, k r H _ .refl rm rv_bl⟩
        rcases hh with ⟨hlt, rfl⟩ | ⟨c, hc', rfl⟩
        · exact hf hlt
        · exact (hc c hc').2
      · cases e
    · cases e
  · cases e

theorem RVs.get : ∀ {av : Av} {r : List Addr} {H : Hp} {xs : List PV} {vs : List V} {i : Nat} {x : PV}, RVs T av r H xs vs → xs[i]? = some x → ∃ v, vs[i]? = some v ∧ RV T av r H x v
  | _, _, _, [], _, _, _, _, e => by simp at e
  | _, _, _, y :: ys, _, 0, x, h, e => by
    unfold RVs at h
    obtain ⟨v, ws, rfl, h1, _⟩ := h
    simp at e
    subst e
    exact ⟨v, rfl, h1⟩
  | _, _, _, y :: ys, _, i + 1, x, h, e => by
    unfold RVs at h
    obtain ⟨v, ws, rfl, _, h2⟩ := h
    obtain ⟨w, hw, q⟩ := RVs.get (i := i) h2 (by simpa using e)
    exact ⟨w, by simpa using hw, q⟩
theorem RVs.at {av : Av} {r : List Addr} {H : Hp} {xs : List PV} {vs : List V} {i : Int} {x : PV} (h : RVs T av r H xs vs) (e : atI xs i = some x) : ∃ v, atI vs i = some v ∧ RV T av r H x v := by
  unfold atI at e
  cases q : ixN xs.length i with
  | none => rw [q] at e; cases e
  | some j =>
    rw [q] at e
    obtain ⟨v, hv, rv⟩ := h.get (i := j) e
    refine ⟨v, ?_, rv⟩
    unfold atI
    rw [h.length, q]
    exact hv
noncomputable def fIx : PV → PV → Mem → Option PV := fun x y m => match x, y with
  | .tup xs, .int i => atI xs i
  | .kst xs, .int i => atI xs i
  | x, .int i => match lstOf x m with
    | some xs => atI xs i
    | none => none
  | _, _ => none
noncomputable def IxM (X : Cx) (T : Tx) (f : PV → PV → Mem → Option PV) : Prop :=
  ∃ rd : R2, IxR X rd ∧ ∀ {av : Av} {r : List Addr} {H : Hp} {m : Mem} {x y z : PV} {v w : V} {Q : VK}, RM T av r H m → RV T av r H x v → RV T av r H y w → f x y m = some z → KE T av r H Q z m → rd v w H Q
theorem im_seq (hK : X.K = T.K) : IxM X T fIx := by
  refine ⟨_, ix_seq, fun {av r H m x y z v w Q} rm rv rw e k => ?_⟩
  unfold fIx at e
  split at e
  · obtain ⟨a, vs, rfl, ha, hv⟩ := tup_ok hK rv
    obtain ⟨u, hu, ru⟩ := hv.at e
    exact .inr (.inl ⟨a, vs, _, u, rfl, rw.int', ha, hu, k r H _ .refl rm ru⟩)
  · obtain ⟨a, vs, rfl, ha, hv⟩ := kst_ok hK rv
    obtain ⟨u, hu, ru⟩ := hv.at e
    exact .inl ⟨a, vs, _, u, rfl, rw.int', ha, hu, k r H _ .refl rm ru⟩
  · split at e
    · rename_i xs hx
      obtain ⟨a, vs, rfl, ha, hv⟩ := lstOf_ok rm rv hx
      obtain ⟨u, hu, ru⟩ := hv.at e
      exact .inl ⟨a, vs, _, u, rfl, rw.int', .inl ha, hu, k r H _ .refl rm ru⟩
    · cases e
  · cases e
theorem se_ix {f : PV → PV → Mem → Option PV} (ho : IxM X T f) (ha : SE X T W a ma) (hb : SE X T W b mb) (hs : PlainIx b := by exact fun _ _ => rfl) : SE X T W (.Subscript a b pos) (mBin f ma mb) := by
  obtain ⟨rd, h1, h2⟩ := ho
  exact ⟨PE.imp (pe_ix h1 ha.pe hb.pe hs) fun σ H Q ⟨av, r, e, m, re, rm, h⟩ =>
    ⟨av, r, e, m, re, rm, okR_imp (okR_bind h) fun x m1 h r1 H1 v g1 rm1 rv =>
      ⟨av, r1, e, m1, re.grow g1, rm1, okR_grow g1 (fun y m2 h r2 H2 w g2 rm2 rw => by
        obtain ⟨z, hz, k⟩ := okR_oP h
        exact h2 rm2 (rv.grow g2) rw hz (KE.grow (g1.trans g2) k)) (okR_bind h)⟩⟩⟩
theorem lookup_at {fs : List (Str × V)} {i : Nat} {f : Str} {v : V} (nd : (fs.map (·.1)).Nodup) (h1 : (fs.map (·.1))[i]? = some f) (h2 : (fs.map (·.2))[i]? = some v) : fs.lookup f = some v := by
  induction fs generalizing i with
  | nil => simp at h1
  | cons p ps ih =>
    cases i with
    | zero =>
      simp at h1 h2
      subst h1 h2
      simp [List.lookup]
    | succ i =>
      simp only [List.map_cons, List.getElem?_cons_succ] at h1 h2
      rw [List.map_cons, List.nodup_cons] at nd
      have ne : (f == p.1) = false := by
        rw [beq_eq_false_iff_ne]
        intro z
        exact nd.1 (z ▸ List.mem_of_getElem? h1)
      obtain ⟨p1, p2⟩ := p
      rw [List.lookup_cons]
      simp only at ne
      rw [ne]
      exact ih nd.2 h1 h2
noncomputable def fldOf (c i : Nat) : PV → Mem → Option PV
  | .ins c' ws, _ => if c' == c then ws[i]? else none
  | .ref j, m => match m[j]? with
    | some (.ins c' ws) => if c' == c then ws[i]? else none
    | _ => none
  | _, _ => none
theorem fldOf_ok {av : Av} {r : List Addr} {H : Hp} {m : Mem} {x z : PV} {v : V} {c i : Nat} {f : Str} (nd : (T.cN c).Nodup) (hf : (T.cN c)[i]? = some f) (rm : RM T av r H m) (h : RV T av r H x v) (e : fldOf c i x m = some z) :
    ∃ a dx fs w, v = .ref a ∧ H a = some (.ins (T.cA c) dx fs) ∧ fs.lookup f = some w ∧ RV T av r H z w := by
  unfold fldOf at e
  split at e
  · rename_i c' ws
    split at e
    · rename_i hc
      rw [beq_iff_eq] at hc
      subst hc
      unfold RV at h
      obtain ⟨a, dx, fs, rfl, _, ha, hn, hv⟩ := h
      obtain ⟨w, hw, rw'⟩ := hv.get e
      exact ⟨a, dx, fs, w, rfl, ha, lookup_at (by rw [hn]; exact nd) (by rw [hn]; exact hf) hw, rw'⟩
    · cases e
  · rename_i j
    split at e
    · rename_i c' ws hx
      split at e
      · rename_i hc
        rw [beq_iff_eq] at hc
        subst hc
        unfold RV at h
        obtain ⟨a, h1, rfl⟩ := h
        obtain ⟨dx, fs, ha, hn, hv, _⟩ := rm.ob j _ a hx h1
        obtain ⟨w, hw, rw'⟩ := hv.get e
        have hi : i < ws.length := (List.getElem?_eq_some_iff.mp e).1
        exact ⟨a, dx, fs, w, rfl, ha, lookup_at (by rw [hn]; exact nd.sublist (List.take_sublist _ _)) (by rw [hn, List.getElem?_take_of_lt hi]; exact hf) hw, rw'⟩
      · cases e
    · cases e
  · cases e
noncomputable def mFld (c i : Nat) (ma : ME) : ME := fun e m => (ma e m).bind fun x m1 => oP (fldOf c i x m1) m1
theorem se_fld (cl i : Nat) {f : Str} (hc : Cls X.K (T.cA cl)) (hn : NoAttr X.K (T.cA cl) f) (nd : (T.cN cl).Nodup) (hf : (T.cN cl)[i]? = some f) (ha : SE X T W a ma) (hb : attributeBase a f X.env (eval a X.env) = eval a X.env := by rfl) :
    SE X T W (.Attribute a f pos) (mFld cl i ma) :=
  ⟨PE.imp (pe_fld ha.pe hb) fun σ H Q ⟨av, r, e, m, re, rm, h⟩ =>
    ⟨av, r, e, m, re, rm, okR_imp (okR_bind h) fun x m1 h r1 H1 v g1 rm1 rv => by
      obtain ⟨z, hz, k⟩ := okR_oP h
      obtain ⟨a, dx, fs, w, rfl, h1, h2, h3⟩ := fldOf_ok nd hf rm1 rv hz
      exact ⟨a, _, dx, fs, w, rfl, h1, hc, hn, h2, k r1 H1 w g1 rm1 h3⟩⟩⟩

noncomputable def tO (T : Tx) (W : WX) (mo : Env → Mem → Res (Option Int)) : TO := fun σ H Q => ∃ av r e m, RE T av r H e σ ∧ RM T av r H m ∧ okR T av r H (fun c d H' => W c d σ H') (fun o m' => ∀ r' H', Grow r H r' H' → RM T av r' H' m' → Q o H') (mo e m)
structure SO (X : Cx) (T : Tx) (W : WX) (e : Option Expr) (mo : Env → Mem → Res (Option Int)) : Prop where po : PO X e (tO T W mo)
theorem PO.imp {e : Option Expr} {t t' : TO} (h : PO X e t) (f : ∀ σ H Q, t' σ H Q → t σ H Q) : PO X e t' := ⟨fun pins s σ H Q I q => h.run pins s σ H Q I (f σ H Q q)⟩
noncomputable def mNoP : Env → Mem → Res (Option Int) := fun _ m => .ok none m
noncomputable def mSoP (ma : ME) : Env → Mem → Res (Option Int) := fun e m => (ma e m).bind fun v m1 => match v with
  | .int i => .ok (some i) m1
  | _ => .bad
theorem so_none : SO X T W none mNoP := ⟨PO.imp po_none fun σ H Q ⟨av, r, e, m, re, rm, h⟩ => h r H .refl rm⟩
theorem so_some (ha : SE X T W a ma) : SO X T W (some a) (mSoP ma) := ⟨PO.imp (po_some ha.pe) fun σ H Q ⟨av, r, e, m, re, rm, h⟩ =>
  ⟨av, r, e, m, re, rm, okR_imp (okR_bind h) fun x m1 h r1 H1 v g1 rm1 rv => by
    split at h
    · exact ⟨_, rv.int', h r1 H1 g1 rm1⟩
    · exact h.elim⟩⟩
noncomputable def cutP {s : Type} (xs : List s) (lo hi : Option Int) : List s := (xs.drop (HT.sIx xs.length 0 lo)).take (HT.sIx xs.length xs.length hi - HT.sIx xs.length 0 lo)
theorem RVs.drop {av : Av} {r : List Addr} {H : Hp} : ∀ (n : Nat) {xs : List PV} {vs : List V}, RVs T av r H xs vs → RVs T av r H (xs.drop n) (vs.drop n)
  | 0, _, _, h => h
  | n + 1, [], _, h => by unfold RVs at h; subst h; simp; unfold RVs; rfl
  | n + 1, x :: xs, _, h => by
    unfold RVs at h
    obtain ⟨v, ws, rfl, _, h2⟩ := h
    exact RVs.drop n h2
theorem RVs.take {av : Av} {r : List Addr} {H : Hp} : ∀ (n : Nat) {xs : List PV} {vs : List V}, RVs T av r H xs vs → RVs T av r H (xs.take n) (vs.take n)
  | 0, _, _, h => by simp; unfold RVs; rfl
  | n + 1, [], _, h => by unfold RVs at h; subst h; simp; unfold RVs; rfl
  | n + 1, x :: xs, _, h => by
    unfold RVs at h
    obtain ⟨v, ws, rfl, h1, h2⟩ := h
    simp only [List.take_succ_cons]
    unfold RVs
    exact ⟨v, _, rfl, h1, RVs.take n h2⟩
theorem RVs.cut {av : Av} {r : List Addr} {H : Hp} {xs : List PV} {vs : List V} {lo hi : Option Int} (h : RVs T av r H xs vs) : RVs T av r H (cutP xs lo hi) (cutV vs lo hi) := by
  unfold cutP cutV
  rw [h.length]
  exact (h.drop _).take _
noncomputable def mSl {s : Type} (f : PV → Option Int → Option Int → Mem → Option s) (ma : ME) (ml mh : Env → Mem → Res (Option Int)) : Env → Mem → Res s := fun e m => (ma e m).bind fun x m1 => (ml e m1).bind fun l m2 => (mh e m2).bind fun u m3 => oP (f x l u m3) m3
noncomputable def SlM (X : Cx) (T : Tx) (f : PV → Option Int → Option Int → Mem → Option PV) : Prop :=
  ∃ rd : V → Option Int → Option Int → Hp → VK → Prop, SlR X rd ∧ ∀ {av : Av} {r : List Addr} {H : Hp} {m : Mem} {x z : PV} {lo hi : Option Int} {v : V} {Q : VK}, RM T av r H m → RV T av r H x v → f x lo hi m = some z → KE T av r H Q z m → rd v lo hi H Q
noncomputable def SlF (X : Cx) (T : Tx) (f : PV → Option Int → Option Int → Mem → Option (List PV)) : Prop :=
  ∃ rd : V → Option Int → Option Int → Hp → VK → Prop, SlR X rd ∧ ∀ {av : Av} {r : List Addr} {H : Hp} {m : Mem} {x : PV} {z : List PV} {lo hi : Option Int} {v : V} {Q : VK}, RM T av r H m → RV T av r H x v → f x lo hi m = some z → KF T av r H Q z m → rd v lo hi H Q
theorem se_sl {f : PV → Option Int → Option Int → Mem → Option PV} {lo hi : Option Expr} {ml mh : Env → Mem → Res (Option Int)} {p2 : Pos} (ho : SlM X T f) (ha : SE X T W a ma) (hl : SO X T W lo ml) (hh : SO X T W hi mh) : SE X T W (.Subscript a (.Slice lo hi none p2) pos) (mSl f ma ml mh) := by
  obtain ⟨rd, h1, h2⟩ := ho
  exact ⟨PE.imp (pe_slice h1 ha.pe hl.po hh.po) fun σ H Q ⟨av, r, e, m, re, rm, h⟩ =>
    ⟨av, r, e, m, re, rm, okR_imp (okR_bind h) fun x m1 h r1 H1 v g1 rm1 rv =>
      ⟨av, r1, e, m1, re.grow g1, rm1, okR_grow g1 (fun l m2 h r2 H2 g2 rm2 =>
        ⟨av, r2, e, m2, re.grow (g1.trans g2), rm2, okR_grow (g1.trans g2) (fun u m3 h r3 H3 g3 rm3 => by
          obtain ⟨z, hz, k⟩ := okR_oP h
          exact h2 rm3 (rv.grow (g2.trans g3)) hz (KE.grow ((g1.trans g2).trans g3) k)) (okR_bind h)⟩) (okR_bind h)⟩⟩⟩
theorem sf_sl {f : PV → Option Int → Option Int → Mem → Option (List PV)} {lo hi : Option Expr} {ml mh : Env → Mem → Res (Option Int)} {p2 : Pos} (ho : SlF X T f) (ha : SE X T W a ma) (hl : SO X T W lo ml) (hh : SO X T W hi mh) : SF X T W (.Subscript a (.Slice lo hi none p2) pos) (mSl f ma ml mh) := by
  obtain ⟨rd, h1, h2⟩ := ho
  exact ⟨PE.imp (pe_slice h1 ha.pe hl.po hh.po) fun σ H Q ⟨av, r, e, m, re, rm, h⟩ =>
    ⟨av, r, e, m, re, rm, okR_imp (okR_bind h) fun x m1 h r1 H1 v g1 rm1 rv =>
      ⟨av, r1, e, m1, re.grow g1, rm1, okR_grow g1 (fun l m2 h r2 H2 g2 rm2 =>
        ⟨av, r2, e, m2, re.grow (g1.trans g2), rm2, okR_grow (g1.trans g2) (fun u m3 h r3 H3 g3 rm3 => by
          obtain ⟨z, hz, k⟩ := okR_oP h
          exact h2 rm3 (rv.grow (g2.trans g3)) hz (KF.grow ((g1.trans g2).trans g3) k)) (okR_bind h)⟩) (okR_bind h)⟩⟩⟩
noncomputable def sTup : PV → Option Int → Option Int → Mem → Option PV := fun x lo hi _ => match x with
  | .tup xs => some (.tup (cutP xs lo hi))
  | _ => none
theorem sm_tup (hK : X.K = T.K) : SlM X T sTup := by
  refine ⟨_, sl_tupA, fun {av r H m x z lo hi v Q} rm rv e k => ?_⟩
  unfold sTup at e
  split at e
  · rename_i xs
    cases e
    have rv0 := rv
    obtain ⟨a, vs, rfl, ha, hv⟩ := tup_ok hK rv
    refine ⟨a, vs, rfl, ha, fun hw => k r H _ .refl rm ?_, fun _ p hp => ke_newT rm hp hv.cut k⟩
    have e0 : cutP xs lo hi = xs := by
      unfold cutP
      rw [← hv.length, hw.1, hw.2, List.drop_zero, Nat.sub_zero, hv.length, List.take_length]
    rw [e0]
    exact rv0
  · cases e
noncomputable def sLst : PV → Option Int → Option Int → Mem → Option (List PV) := fun x lo hi m => match lstOf x m with
  | some xs => some (cutP xs lo hi)
  | none => none
theorem sf_lstS : SlF X T sLst := by
  refine ⟨_, sl_list, fun {av r H m x z lo hi v Q} rm rv e k => ?_⟩
  unfold sLst at e
  split at e
  · rename_i xs hx
    cases e
    obtain ⟨a, vs, rfl, ha, hv⟩ := lstOf_ok rm rv hx
    exact ⟨a, vs, rfl, .inl ha, fun p hp => kf_new rm hp hv.cut k⟩
  · cases e

noncomputable def rInT (K : PySem.W.Frag) (neg : Bool) : R2 := fun x y H Q => ∃ d ds, Dp K H x d ∧ (Dp K H y (.list ds) ∨ Dp K H y (.tuple ds)) ∧ SeqAt.shaped d = true ∧ SeqAt.shaped (.list ds) = true ∧ Q (.bl (if neg then !(ds.any fun z => PyData.eqv z d) else ds.any fun z => PyData.eqv z d)) H
theorem op_inT (hu : X.A.units + 65 < cLine) : OpR X (compareOp .In) (rInT X.K false) := by
  intro pins s σ H x y v u Q I rx ry h
  obtain ⟨d, ds, hd, he, sd, se, q⟩ := h
  obtain ⟨as, r1⟩ := Dp.reads I d x v hd rx
  rcases he with he | he
  · obtain ⟨bs, r2⟩ := Dp.reads I (.list ds) y u he ry
    exact SeqAt.in_list_reads r2 r1 (SeqAt.canLay_of_shaped se) (SeqAt.canLay_of_shaped sd) (room_in_shaped sd hu) ⟨.bl _, H, I, rfl, q⟩
  · obtain ⟨bs, r2⟩ := Dp.reads I (.tuple ds) y u he ry
    exact SeqAt.in_tuple_reads r2 r1 (SeqAt.canLay_of_shaped se) (SeqAt.canLay_of_shaped sd) (room_in_shaped sd hu) ⟨.bl _, H, I, rfl, q⟩
theorem op_notInT (hu : X.A.units + 65 < cLine) : OpR X (compareOp .NotIn) (rInT X.K true) := by
  intro pins s σ H x y v u Q I rx ry h
  obtain ⟨d, ds, hd, he, sd, se, q⟩ := h
  obtain ⟨as, r1⟩ := Dp.reads I d x v hd rx
  rcases he with he | he
  · obtain ⟨bs, r2⟩ := Dp.reads I (.list ds) y u he ry
    exact SeqAt.notIn_list_reads r2 r1 (SeqAt.canLay_of_shaped se) (SeqAt.canLay_of_shaped sd) (room_in_shaped sd hu) ⟨.bl _, H, I, rfl, q⟩
  · obtain ⟨bs, r2⟩ := Dp.reads I (.tuple ds) y u he ry
    exact SeqAt.notIn_tuple_reads r2 r1 (SeqAt.canLay_of_shaped se) (SeqAt.canLay_of_shaped sd) (room_in_shaped sd hu) ⟨.bl _, H, I, rfl, q⟩
noncomputable def itemsD : PyData → Option (List PyData)
  | .list ds => some ds
  | .tuple ds => some ds
  | _ => none
noncomputable def fInD (neg : Bool) : PV → PV → Mem → Option PV := fun x y m => match datM m x, datM m y with
  | some d, some e => match itemsD e with
    | some ds => if SeqAt.shaped d && SeqAt.shaped (.list ds) then some (.bl (if neg then !(ds.any fun z => PyData.eqv z d) else ds.any fun z => PyData.eqv z d)) else none
    | none => none
  | _, _ => none
theorem fIn_some {neg : Bool} {x y z : PV} {m : Mem} (h : fInD neg x y m = some z) : ∃ d e ds, datM m x = some d ∧ datM m y = some e ∧ (e = .list ds ∨ e = .tuple ds) ∧ SeqAt.shaped d = true ∧ SeqAt.shaped (.list ds) = true ∧ z = .bl (if neg then !(ds.any fun z => PyData.eqv z d) else ds.any fun z => PyData.eqv z d) := by
  unfold fInD at h
  split at h
  · rename_i d e h1 h2
    split at h
    · rename_i ds hd
      split at h
      · rename_i hs
        rw [Bool.and_eq_true] at hs
        refine ⟨d, e, ds, h1, h2, ?_, hs.1, hs.2, (Option.some.inj h).symm⟩
        cases e <;> cases hd
        · exact .inl rfl
        · exact .inr rfl
      · cases h
    · cases h
  · cases h
theorem om_in (hK : X.K = T.K) (hu : X.A.units + 65 < cLine) : OpM X T (compareOp .In) (fInD false) := by
  refine ⟨_, op_inT hu, fun {av r H m x y z v w Q} rm rv rw e k => ?_⟩
  obtain ⟨d, e, ds, h1, h2, h3, h4, h5, rfl⟩ := fIn_some e
  refine ⟨d, ds, datM_ok hK rm rv h1, ?_, h4, h5, k r H _ .refl rm rv_bl⟩
  rcases h3 with rfl | rfl
  · exact .inl (datM_ok hK rm rw h2)
  · exact .inr (datM_ok hK rm rw h2)
theorem om_notIn (hK : X.K = T.K) (hu : X.A.units + 65 < cLine) : OpM X T (compareOp .NotIn) (fInD true) := by
  refine ⟨_, op_notInT hu, fun {av r H m x y z v w Q} rm rv rw e k => ?_⟩
  obtain ⟨d, e, ds, h1, h2, h3, h4, h5, rfl⟩ := fIn_some e
  refine ⟨d, ds, datM_ok hK rm rv h1, ?_, h4, h5, k r H _ .refl rm rv_bl⟩
  rcases h3 with rfl | rfl
  · exact .inl (datM_ok hK rm rw h2)
  · exact .inr (datM_ok hK rm rw h2)
end M

namespace M
open PySem PySem.Spec PyProof.Rows L2
variable {X : Cx} {T : Tx} {W : WX} {a b c : Expr} {ma mb mc : ME} {mt mu : MT} {ms mv : MS} {pos : Pos} {st : Stmt} {rest sts : List Stmt}
variable {av av' : Av} {r r' r2 : List Addr} {H H' H2 : Hp} {m m' : Mem}

structure GrowA (av : Av) (r : List Addr) (H : Hp) (r' : List Addr) (H' : Hp) : Prop where
  ext : ∃ more, r' = r ++ more ∧ ∀ a ∈ more, ¬ Hard H a
  keep : ∀ b o, H b = some o → ¬ av b → b ∉ r → (∀ ps, o ≠ .tbl ps) → H' b = some o
  there : ∀ b, Hard H b → Hard H' b
theorem Grow.toA (g : Grow r H r' H') : GrowA av r H r' H' := ⟨g.ext, fun b o e _ n t => g.keep b o e n t, g.there⟩
theorem GrowA.trans (a : GrowA av r H r' H') (b : Grow r' H' r2 H2) : GrowA av r H r2 H2 := by
  obtain ⟨m1, e1, f1⟩ := a.ext
  obtain ⟨m2, e2, f2⟩ := b.ext
  refine ⟨⟨m1 ++ m2, by rw [e2, e1, List.append_assoc], fun x hx => (List.mem_append.mp hx).elim (f1 x) fun h z => f2 x h (a.there x z)⟩, fun x o e na n t => b.keep x o (a.keep x o e na n t) (fun h => ?_) t, fun x e => b.there x (a.there x e)⟩
  rw [e1] at h
  exact (List.mem_append.mp h).elim n fun h => f1 x h ⟨o, e, nTbl_of t⟩
theorem rd_keepA {a : Addr} {u : HO} (g : GrowA av r H r' H') (na : ¬ av a) (n : a ∉ r) (h : Rd H a u) (nt : ∀ ps, u ≠ .tbl ps) : Rd H' a u := by
  rcases h with h | ⟨o, h⟩
  · exact .inl (g.keep _ _ h na n nt)
  · exact .inr ⟨o, g.keep _ _ h na n (fun ps z => by cases z)⟩
theorem dk_keepA {a : Addr} {ks : List PV} {ws : List V} (g : GrowA av r H r' H') (na : ¬ av a) (n : a ∉ r) (h : DK H a ks ws) : DK H' a ks ws := by
  rcases h with ⟨kvs, h, e⟩ | ⟨kvs, h, e⟩
  · exact .inl ⟨kvs, rd_keepA g na n h (fun ps z => by cases z), e⟩
  · exact .inr ⟨kvs, rd_keepA g na n h (fun ps z => by cases z), e⟩
theorem Out.growA {a : Addr} (g : GrowA av r H r' H') (o : Out av r a) (h : Hard H a) : Out av r' a := by
  obtain ⟨more, e, f⟩ := g.ext
  refine ⟨o.1, fun hm => ?_⟩
  rw [e] at hm
  exact (List.mem_append.mp hm).elim o.2 fun q => f a q h
theorem get_growA {i : Nat} {a : Addr} (g : GrowA av r H r' H') (h : r[i]? = some a) : r'[i]? = some a := by
  obtain ⟨more, e, _⟩ := g.ext
  rw [e, List.getElem?_append_left (List.getElem?_eq_some_iff.mp h).1]
  exact h
mutual
theorem RV.growA (g : GrowA av r H r' H') : ∀ (x : PV) {v : V}, RV T av r H x v → RV T av r' H' x v
  | .non, _, h => by unfold RV at *; exact h
  | .bl _, _, h => by unfold RV at *; exact h
  | .int _, _, h => by unfold RV at *; exact h
  | .str _, _, h => by unfold RV at *; exact h
  | .tup xs, _, h => by
    unfold RV at *
    obtain ⟨a, vs, e, h1, h2⟩ := h
    refine ⟨a, vs, e, ?_, RVs.growA g xs h2⟩
    rcases h1 with ⟨o, d⟩ | k | ⟨kt, o, ob, d⟩
    · exact .inl ⟨o.growA g ⟨_, d, trivial⟩, g.keep _ _ d o.1 o.2 (fun ps z => by cases z)⟩
    · exact .inr (.inl k)
    · exact .inr (.inr ⟨kt, o.growA g ⟨_, d, trivial⟩, ob, g.keep _ _ d o.1 o.2 (fun ps z => by cases z)⟩)
  | .kst xs, _, h => by
    unfold RV at *
    obtain ⟨a, vs, e, k, h2⟩ := h
    exact ⟨a, vs, e, k, RVs.growA g xs h2⟩
  | .lst xs, _, h => by
    unfold RV at *
    obtain ⟨a, vs, e, o, d, h2⟩ := h
    exact ⟨a, vs, e, o.growA g (rd_some d), rd_keepA g o.1 o.2 d (fun ps z => by cases z), RVs.growA g xs h2⟩
  | .ins c ws, _, h => by
    unfold RV at *
    obtain ⟨a, dx, fs, e, o, d, n, h2⟩ := h
    exact ⟨a, dx, fs, e, o.growA g ⟨_, d, trivial⟩, g.keep _ _ d o.1 o.2 (fun ps z => by cases z), n, RVs.growA g ws h2⟩
  | .dtt ks ws, _, h => by
    unfold RV at *
    obtain ⟨a, kvs, e, o, d, nm, h2⟩ := h
    exact ⟨a, kvs, e, o.growA g (rd_some d), rd_keepA g o.1 o.2 d (fun ps z => by cases z), nm, RVs.growA g ws h2⟩
  | .exn c ws, _, h => by
    unfold RV at *
    obtain ⟨a, dx, fs, ex, e, o, d, n, h2⟩ := h
    exact ⟨a, dx, fs, ex, e, o.growA g ⟨_, d, trivial⟩, g.keep _ _ d o.1 o.2 (fun ps z => by cases z), n, RVs.growA g ws h2⟩
  | .dct ks ws, _, h => by
    unfold RV at *
    obtain ⟨a, vs, e, o, d, h2⟩ := h
    exact ⟨a, vs, e, o.growA g (dk_some d), dk_keepA g o.1 o.2 d, RVs.growA g ws h2⟩
  | .glo _, _, h => by unfold RV at *; exact h
  | .opq, _, _ => by unfold RV; trivial
  | .ftup xs, _, h => by
    unfold RV at *
    obtain ⟨a, vs, ob, e, kt, dn, o, d, h2⟩ := h
    exact ⟨a, vs, ob, e, kt, dn, o.growA g ⟨_, d, trivial⟩, g.keep _ _ d o.1 o.2 (fun ps z => by cases z), RVs.growA g xs h2⟩
  | .clo0 l, _, h => by
    unfold RV at *
    obtain ⟨f, c, F, φ, ψ, cl, e, z, o1, d1, o2, d2⟩ := h
    exact ⟨f, c, F, φ, ψ, cl, e, z, o1.growA g ⟨_, d1, trivial⟩, g.keep _ _ d1 o1.1 o1.2 (fun ps z => by cases z), o2.growA g ⟨_, d2, trivial⟩, g.keep _ _ d2 o2.1 o2.2 (fun ps z => by cases z)⟩
  | .clo l xs, _, h => by
    unfold RV at *
    obtain ⟨f, c, F, φ, ψ, cl, vs, e, z, o1, d1, o2, d2, ct, h2⟩ := h
    exact ⟨f, c, F, φ, ψ, cl, vs, e, z, o1.growA g ⟨_, d1, trivial⟩, g.keep _ _ d1 o1.1 o1.2 (fun ps z => by cases z), o2.growA g ⟨_, d2, trivial⟩, g.keep _ _ d2 o2.1 o2.2 (fun ps z => by cases z), ct.imp (fun a ob o d => ⟨o.growA g ⟨_, d, trivial⟩, g.keep _ _ d o.1 o.2 (fun ps z => by cases z)⟩), RVs.growA g xs h2⟩
  | .lam l, _, h => by
    unfold RV at *
    obtain ⟨f, c, F, φ, ψ, e, z, o1, d1, o2, d2⟩ := h
    exact ⟨f, c, F, φ, ψ, e, z, o1.growA g ⟨_, d1, trivial⟩, g.keep _ _ d1 o1.1 o1.2 (fun ps z => by cases z), o2.growA g ⟨_, d2, trivial⟩, g.keep _ _ d2 o2.1 o2.2 (fun ps z => by cases z)⟩
  | .ref i, _, h => by
    unfold RV at *
    obtain ⟨a, h1, h2⟩ := h
    exact ⟨a, get_growA g h1, h2⟩
theorem RVs.growA (g : GrowA av r H r' H') : ∀ (xs : List PV) {vs : List V}, RVs T av r H xs vs → RVs T av r' H' xs vs
  | [], _, h => by unfold RVs at *; exact h
  | x :: xs, _, h => by
    unfold RVs at *
    obtain ⟨v, ws, e, h1, h2⟩ := h
    exact ⟨v, ws, e, RV.growA g x h1, RVs.growA g xs h2⟩
end
mutual
theorem RV.widen (hw : ∀ a, av' a → av a ∨ ¬ Hard H a) : ∀ (x : PV) {v : V}, RV T av r H x v → RV T av' r H x v
  | .non, _, h => by unfold RV at *; exact h
  | .bl _, _, h => by unfold RV at *; exact h
  | .int _, _, h => by unfold RV at *; exact h
  | .str _, _, h => by unfold RV at *; exact h
  | .tup xs, _, h => by
    unfold RV at *
    obtain ⟨a, vs, e, h1, h2⟩ := h
    refine ⟨a, vs, e, ?_, RVs.widen hw xs h2⟩
    rcases h1 with ⟨o, d⟩ | k | ⟨kt, o, ob, d⟩
    · exact .inl ⟨⟨fun z => (hw a z).elim o.1 fun z => z ⟨_, d, trivial⟩, o.2⟩, d⟩
    · exact .inr (.inl k)
    · exact .inr (.inr ⟨kt, ⟨fun z => (hw a z).elim o.1 fun z => z ⟨_, d, trivial⟩, o.2⟩, ob, d⟩)
  | .kst xs, _, h => by
    unfold RV at *
    obtain ⟨a, vs, e, k, h2⟩ := h
    exact ⟨a, vs, e, k, RVs.widen hw xs h2⟩
  | .lst xs, _, h => by
    unfold RV at *
    obtain ⟨a, vs, e, o, d, h2⟩ := h
    exact ⟨a, vs, e, ⟨fun z => (hw a z).elim o.1 fun z => z (rd_some d), o.2⟩, d, RVs.widen hw xs h2⟩
  | .ins c ws, _, h => by
    unfold RV at *
    obtain ⟨a, dx, fs, e, o, d, n, h2⟩ := h
    exact ⟨a, dx, fs, e, ⟨fun z => (hw a z).elim o.1 fun z => z ⟨_, d, trivial⟩, o.2⟩, d, n, RVs.widen hw ws h2⟩
  | .dtt ks ws, _, h => by
    unfold RV at *
    obtain ⟨a, kvs, e, o, d, nm, h2⟩ := h
    exact ⟨a, kvs, e, ⟨fun z => (hw a z).elim o.1 fun z => z (rd_some d), o.2⟩, d, nm, RVs.widen hw ws h2⟩
  | .exn c ws, _, h => by
    unfold RV at *
    obtain ⟨a, dx, fs, ex, e, o, d, n, h2⟩ := h
    exact ⟨a, dx, fs, ex, e, ⟨fun z => (hw dx z).elim o.1 fun z => z ⟨_, d, trivial⟩, o.2⟩, d, n, RVs.widen hw ws h2⟩
  | .dct ks ws, _, h => by
    unfold RV at *
    obtain ⟨a, vs, e, o, d, h2⟩ := h
    exact ⟨a, vs, e, ⟨fun z => (hw a z).elim o.1 fun z => z (dk_some d), o.2⟩, d, RVs.widen hw ws h2⟩
  | .glo _, _, h => by unfold RV at *; exact h
  | .opq, _, _ => by unfold RV; trivial
  | .ftup xs, _, h => by
    unfold RV at *
    obtain ⟨a, vs, ob, e, kt, dn, o, d, h2⟩ := h
    exact ⟨a, vs, ob, e, kt, dn, ⟨fun z => (hw a z).elim o.1 fun z => z ⟨_, d, trivial⟩, o.2⟩, d, RVs.widen hw xs h2⟩
  | .clo0 l, _, h => by
    unfold RV at *
    obtain ⟨f, c, F, φ, ψ, cl, e, z, o1, d1, o2, d2⟩ := h
    exact ⟨f, c, F, φ, ψ, cl, e, z, ⟨fun z => (hw f z).elim o1.1 fun z => z ⟨_, d1, trivial⟩, o1.2⟩, d1, ⟨fun z => (hw c z).elim o2.1 fun z => z ⟨_, d2, trivial⟩, o2.2⟩, d2⟩
  | .clo l xs, _, h => by
    unfold RV at *
    obtain ⟨f, c, F, φ, ψ, cl, vs, e, z, o1, d1, o2, d2, ct, h2⟩ := h
    exact ⟨f, c, F, φ, ψ, cl, vs, e, z, ⟨fun z => (hw f z).elim o1.1 fun z => z ⟨_, d1, trivial⟩, o1.2⟩, d1, ⟨fun z => (hw c z).elim o2.1 fun z => z ⟨_, d2, trivial⟩, o2.2⟩, d2, ct.imp (fun a ob o d => ⟨⟨fun z => (hw a z).elim o.1 fun z => z ⟨_, d, trivial⟩, o.2⟩, d⟩), RVs.widen hw xs h2⟩
  | .lam l, _, h => by
    unfold RV at *
    obtain ⟨f, c, F, φ, ψ, e, z, o1, d1, o2, d2⟩ := h
    exact ⟨f, c, F, φ, ψ, e, z, ⟨fun z => (hw f z).elim o1.1 fun z => z ⟨_, d1, trivial⟩, o1.2⟩, d1, ⟨fun z => (hw c z).elim o2.1 fun z => z ⟨_, d2, trivial⟩, o2.2⟩, d2⟩
  | .ref i, _, h => by unfold RV at *; exact h
theorem RVs.widen (hw : ∀ a, av' a → av a ∨ ¬ Hard H a) : ∀ (xs : List PV) {vs : List V}, RVs T av r H xs vs → RVs T av' r H xs vs
  | [], _, h => by unfold RVs at *; exact h
  | x :: xs, _, h => by
    unfold RVs at *
    obtain ⟨v, ws, e, h1, h2⟩ := h
    exact ⟨v, ws, e, RV.widen hw x h1, RVs.widen hw xs h2⟩
end
theorem RE.map {av1 av2 : Av} {r1 r2 : List Addr} {H1 H2 : Hp} (f : ∀ x v, RV T av1 r1 H1 x v → RV T av2 r2 H2 x v) : ∀ {e : Env} {s : L2.St}, RE T av1 r1 H1 e s → RE T av2 r2 H2 e s
  | _, _, .nil => .nil
  | _, _, .cons h t => .cons (fun v hv => by obtain ⟨w, e, q⟩ := h v hv; exact ⟨w, e, f _ _ q⟩) (RE.map f t)
theorem RE.length {e : Env} {s : L2.St} (h : RE T av r H e s) : e.length = s.length := Paired.length h

noncomputable def sB {s : Type} (x : Res s) (e : Env) (k : s → Mem → SRes) : SRes := match x with
  | .ok v m => k v m
  | .exc c ws m => .exc c ws e m
  | .bad => .bad
theorem okS_sB {D : Ends} {s : Type} {x : Res s} {e : Env} {σ : L2.St} {k : s → Mem → SRes} (re : RE T av r H e σ) (h : okS T av r H W D (sB x e k)) : okR T av r H (fun c d H' => W c d σ H') (fun v m => okS T av r H W D (k v m)) x := by
  cases x with
  | ok v m => exact h
  | exc c ws m => exact fun r' H' cls d g rm rx => h r' H' σ cls d g rm (re.grow g) rx
  | bad => exact h
theorem okS.grow {D : Ends} (g : Grow r H r' H') : ∀ {x : SRes}, okS T av r H W D x → okS T av r' H' W D x
  | .nx _ _, h => fun r2 H2 σ2 g2 rm re => h r2 H2 σ2 (g.trans g2) rm re
  | .bk _ _, h => fun r2 H2 σ2 g2 rm re => h r2 H2 σ2 (g.trans g2) rm re
  | .ct _ _, h => fun r2 H2 σ2 g2 rm re => h r2 H2 σ2 (g.trans g2) rm re
  | .rt _ _, h => fun r2 H2 w g2 rm rv => h r2 H2 w (g.trans g2) rm rv
  | .exc _ _ _ _, h => fun r2 H2 σ2 c d g2 rm re rx => h r2 H2 σ2 c d (g.trans g2) rm re rx
  | .bad, h => h
noncomputable def mExpr (ma : ME) : MS := fun e m => sB (ma e m) e fun _ m1 => .nx e m1
theorem ss_expr (ha : SE X T W a ma) (hs : swapsWith a none pos.line X.env = pure false := by rfl) : SS X T W (.Expr a pos) (mExpr ma) :=
  ⟨PS.imp (ps_expr ha.pe hs) fun D σ H ⟨av, r, e, m, re, rm, h⟩ => ⟨av, r, e, m, re, rm, okR_imp (okS_sB re h) fun v m1 h r1 H1 w g1 rm1 rv => h r1 H1 σ g1 rm1 (re.grow g1)⟩⟩
noncomputable def mRet (ma : ME) : MS := fun e m => sB (ma e m) e fun v m1 => .rt v m1
theorem ss_ret (ha : SE X T W a ma) : SS X T W (.Return (some a) pos) (mRet ma) :=
  ⟨PS.imp (ps_ret ha.pe) fun D σ H ⟨av, r, e, m, re, rm, h⟩ => ⟨av, r, e, m, re, rm, okR_imp (okS_sB re h) fun v m1 h => h⟩⟩
noncomputable def mPass : MS := fun e m => .nx e m
noncomputable def mSeq (a b : MS) : MS := fun e m => match a e m with
  | .nx e1 m1 => b e1 m1
  | x => x
theorem okS_seq {D : Ends} {D' : Ends} {mv : MS} (hn : ∀ e1 m1 r' H' σ', okS T av r H W D (mv e1 m1) → Grow r H r' H' → RM T av r' H' m1 → RE T av r' H' e1 σ' → D'.nx σ' H') (hr : D'.rt = D.rt) (hb : D'.bk = D.bk) (hc : D'.ct = D.ct) :
    ∀ {x : SRes}, okS T av r H W D (match x with
      | .nx e1 m1 => mv e1 m1
      | x => x) → okS T av r H W D' x
  | .nx _ _, h => fun r2 H2 σ2 g rm re => hn _ _ r2 H2 σ2 h g rm re
  | .bk _ _, h => fun r2 H2 σ2 g rm re => hb ▸ h r2 H2 σ2 g rm re
  | .ct _ _, h => fun r2 H2 σ2 g rm re => hc ▸ h r2 H2 σ2 g rm re
  | .rt _ _, h => fun r2 H2 w g rm re => hr ▸ h r2 H2 w g rm re
  | .exc _ _ _ _, h => h
  | .bad, h => h
theorem sb_nil : SB X T W [] mPass := ⟨PSs.imp pss_nil fun D σ H ⟨av, r, e, m, re, rm, h⟩ => h r H σ .refl rm re⟩
theorem sb_one (h : SS X T W st ms) : SB X T W [st] ms := ⟨pss_one h.ps⟩
theorem sb_cons (h1 : SS X T W st ms) (h2 : SB X T W rest mv) : SB X T W (st :: rest) (mSeq ms mv) :=
  ⟨PSs.imp (pss_cons h1.ps h2.ps) fun D σ H ⟨av, r, e, m, re, rm, h⟩ => ⟨av, r, e, m, re, rm, okS_seq (D' := { D with nx := tS T W mv D }) (fun e1 m1 r' H' σ' h g rm' re' => ⟨av, r', e1, m1, re', rm', h.grow g⟩) rfl rfl rfl h⟩⟩
noncomputable def mIfS (t : MT) (a b : MS) : MS := fun e m => sB (t e m) e fun k m1 => if k then a e m1 else b e m1
theorem ss_if (hc : ST X T W c mt) (ha : SB X T W rest ms) (hb : SB X T W sts mv) : SS X T W (.If c rest sts pos) (mIfS mt ms mv) :=
  ⟨PS.imp (ps_if hc.pt ha.ps hb.ps) fun D σ H ⟨av, r, e, m, re, rm, h⟩ => ⟨av, r, e, m, re, rm, okR_imp (okS_sB re h) fun k m1 h r1 H1 g1 rm1 => by
    cases k with
    | true => exact iteT ⟨av, r1, e, m1, re.grow g1, rm1, h.grow g1⟩
    | false => exact iteF ⟨av, r1, e, m1, re.grow g1, rm1, h.grow g1⟩⟩⟩

noncomputable abbrev MG := PV → Env → Mem → Res Env
noncomputable def Agree (ts : List Nat) (s s' : L2.St) : Prop := s.length = s'.length ∧ ∀ j, j ∉ ts → s'[j]? = s[j]?
theorem Agree.refl {ts : List Nat} {s : L2.St} : Agree ts s s := ⟨rfl, fun _ _ => rfl⟩
theorem Agree.trans {ts : List Nat} {s s' s2 : L2.St} (a : Agree ts s s') (b : Agree ts s' s2) : Agree ts s s2 := ⟨a.1.trans b.1, fun j n => (b.2 j n).trans (a.2 j n)⟩
theorem Agree.mono {ts us : List Nat} {s s' : L2.St} (a : Agree ts s s') (h : ∀ j ∈ ts, j ∈ us) : Agree us s s' := ⟨a.1, fun j n => a.2 j fun z => n (h j z)⟩
noncomputable def KG (T : Tx) (av : Av) (r : List Addr) (H : Hp) (ts : List Nat) (σ : L2.St) (Q : L2.St → Hp → Prop) (e' : Env) (m' : Mem) : Prop := ∀ r' H' σ', Grow r H r' H' → RM T av r' H' m' → RE T av r' H' e' σ' → Agree ts σ σ' → Q σ' H'
noncomputable def tG (T : Tx) (ts : List Nat) (mg : MG) : TG := fun v σ H Q => ∃ av r e m x, RE T av r H e σ ∧ RM T av r H m ∧ RV T av r H x v ∧ okR T av r H (fun _ _ _ => False) (KG T av r H ts σ Q) (mg x e m)
structure SG (X : Cx) (T : Tx) (ts : List Nat) (tg : Expr) (mg : MG) : Prop where pg : PG X tg (tG T ts mg)
noncomputable abbrev MGs := List PV → Env → Mem → Res Env
noncomputable def tGs (T : Tx) (ts : List Nat) (mg : MGs) : TGs := fun vs σ H Q => ∃ av r e m xs, RE T av r H e σ ∧ RM T av r H m ∧ RVs T av r H xs vs ∧ okR T av r H (fun _ _ _ => False) (KG T av r H ts σ Q) (mg xs e m)
structure SGs (X : Cx) (T : Tx) (ts : List Nat) (tg : List Expr) (mg : MGs) : Prop where pgs : PGs X tg (tGs T ts mg)
theorem PG.imp {tg : Expr} {t t' : TG} (h : PG X tg t) (f : ∀ v σ H Q, t' v σ H Q → t v σ H Q) : PG X tg t' := ⟨fun pins s σ H x u Q I rx q => h.run pins s σ H x u Q I rx (f x σ H Q q)⟩
theorem PGs.imp {tg : List Expr} {t t' : TGs} (h : PGs X tg t) (f : ∀ v σ H Q, t' v σ H Q → t v σ H Q) : PGs X tg t' := ⟨fun pins s σ H x u Q I rx q => h.run pins s σ H x u Q I rx (f x σ H Q q)⟩
noncomputable def gN (i : Nat) : MG := fun x e m => .ok (e.set i (some x)) m
theorem agree_set {i : Nat} {s : L2.St} {v : Option V} : Agree [i] s (s.set i v) := ⟨(List.length_set ..).symm, fun j n => List.getElem?_set_ne (fun z => n (by simp [z]))⟩
theorem sg_name (i : Nat) {x : Str} (hN : X.N.Nodup) (hi : X.N[i]? = some x) (hx : Loc X.env.scope x) (hf : X.fn x = true ∨ X.env.scope.names.lookup x = some .local := by first | exact .inl rfl | exact .inr rfl) : SG X T [i] (.Name x pos) (gN i) :=
  ⟨PG.imp (pg_name hN hi hx hf) fun v σ H Q ⟨av, r, e, m, x, re, rm, rv, h⟩ => h r H _ .refl rm (re.set rv i) agree_set⟩
noncomputable def gsNil : MGs := fun xs e m => match xs with
  | [] => .ok e m
  | _ => .bad
noncomputable def gsCons (g : MG) (gs : MGs) : MGs := fun xs e m => match xs with
  | x :: xs => (g x e m).bind fun e1 m1 => gs xs e1 m1
  | [] => .bad
theorem sgs_nil : SGs X T [] [] gsNil := ⟨PGs.imp pgs_nil fun vs σ H Q ⟨av, r, e, m, xs, re, rm, rv, h⟩ => by
  cases xs with
  | nil =>
    unfold RVs at rv
    exact ⟨rv, h r H _ .refl rm re .refl⟩
  | cons _ _ => exact h.elim⟩
theorem sgs_cons {ts us : List Nat} {t : Expr} {tg : List Expr} {g : MG} {gs : MGs} (h1 : SG X T ts t g) (h2 : SGs X T us tg gs) (hs : (assignEach (t :: tg) X.env).map (·.2) = assign t X.env :: (assignEach tg X.env).map (·.2) := by rfl) : SGs X T (ts ++ us) (t :: tg) (gsCons g gs) :=
  ⟨PGs.imp (pgs_cons h1.pg h2.pgs hs) fun vs σ H Q ⟨av, r, e, m, xs, re, rm, rv, h⟩ => by
    cases xs with
    | nil => exact h.elim
    | cons x xs =>
      unfold RVs at rv
      obtain ⟨v, ws, rfl, rx, rxs⟩ := rv
      refine ⟨v, ws, rfl, av, r, e, m, x, re, rm, rx, okR_imp (okR_bind h) fun e1 m1 h r1 H1 σ1 g1 rm1 re1 ag1 => ?_⟩
      exact ⟨av, r1, e1, m1, xs, re1, rm1, rxs.grow g1, okR_grow g1 (fun e2 m2 h r2 H2 σ2 g2 rm2 re2 ag2 => h r2 H2 σ2 (g1.trans g2) rm2 re2 ((ag1.mono fun j hj => List.mem_append_left _ hj).trans (ag2.mono fun j hj => List.mem_append_right _ hj))) h⟩⟩
noncomputable def gTupM (n : Nat) (gs : MGs) : MG := fun x e m => match x with
  | .tup xs => if xs.length == n then gs xs e m else .bad
  | _ => .bad
theorem sg_tup {ts : List Nat} {es : List Expr} {k n : Nat} {gs : MGs} (hK : X.K = T.K) (hc : X.calm = true) (h : SGs X T ts es gs) (hn : (assignEach es X.env).length = n := by rfl) (hst : (assignEach es X.env).findIdx? (·.1) = none := by rfl) : SG X T ts (.Tuple es k pos) (gTupM n gs) :=
  ⟨PG.imp (pg_tup (n := n) hc h.pgs hn hst) fun v σ H Q ⟨av, r, e, m, x, re, rm, rv, h⟩ => by
    unfold gTupM at h
    split at h
    · rename_i xs
      split at h
      · rename_i hl
        obtain ⟨a, vs, rfl, ha, hv⟩ := tup_ok hK rv
        exact ⟨a, vs, rfl, ha, by rw [hv.length]; exact eq_of_beq hl, av, r, e, m, xs, re, rm, hv, h⟩
      · exact h.elim
    · exact h.elim⟩
noncomputable def mAsg (ma : ME) (g : MG) : MS := fun e m => sB (ma e m) e fun v m1 => match g v e m1 with
  | .ok e1 m2 => .nx e1 m2
  | _ => .bad
theorem ss_asg {ts : List Nat} {tg : Expr} {g : MG} (ha : SE X T W a ma) (hg : SG X T ts tg g) (hs : swapsWithSole [tg] a pos.line X.env = pure false := by rfl) (hw : swappedStores [tg] a X.env = pure none := by rfl) (h1 : (assignEach [tg] X.env).map (·.2) = [assign tg X.env] := by rfl) : SS X T W (.Assign [tg] a pos) (mAsg ma g) :=
  ⟨PS.imp (ps_asg ha.pe hg.pg hs hw h1) fun D σ H ⟨av, r, e, m, re, rm, h⟩ => ⟨av, r, e, m, re, rm, okR_imp (okS_sB re h) fun v m1 h r1 H1 w g1 rm1 rv => by
    refine ⟨av, r1, e, m1, v, re.grow g1, rm1, rv, ?_⟩
    split at h
    · rename_i e1 m2 hg
      rw [hg]
      exact fun r2 H2 σ2 g2 rm2 re2 _ => h r2 H2 σ2 (g1.trans g2) rm2 re2
    · exact h.elim⟩⟩
noncomputable def mSet (i : Nat) (ma : ME) : MS := fun e m => sB (ma e m) e fun v m1 => .nx (e.set i (some v)) m1
theorem ss_set (i : Nat) {x : Str} {pos' : Pos} (hN : X.N.Nodup) (hi : X.N[i]? = some x) (hx : Loc X.env.scope x) (ha : SE X T W a ma) (hs : swapsWith a (some (.Name x pos')) pos.line X.env = pure false := by rfl)
    (hf : X.fn x = true ∨ X.env.scope.names.lookup x = some .local := by first | exact .inl rfl | exact .inr rfl) : SS X T W (.Assign [.Name x pos'] a pos) (mSet i ma) :=
  ⟨PS.imp (ps_set hN hi hx ha.pe hs hf) fun D σ H ⟨av, r, e, m, re, rm, h⟩ => ⟨av, r, e, m, re, rm, okR_imp (okS_sB re h) fun v m1 h r1 H1 w g1 rm1 rv => h r1 H1 _ g1 rm1 ((re.grow g1).set rv i)⟩⟩

noncomputable abbrev MI := Mem → Nat → Option (Option PV)
noncomputable def IOk (T : Tx) (av : Av) (r : List Addr) (H : Hp) (it : MI) (J : It) : Prop := ∀ (av' : Av) (r' : List Addr) (H' : Hp) (m' : Mem) (i : Nat), (∀ a, av' a → av a ∨ ¬ Hard H a) → GrowA av' r H r' H' → RM T av' r' H' m' → match it m' i with
  | none => True
  | some none => J.stop i H'
  | some (some x) => J.go i H' ∧ ∀ v H2, J.yld i H' v H2 → ∃ r2, Grow r' H' r2 H2 ∧ RM T av' r2 H2 m' ∧ RV T av' r2 H2 x v
noncomputable def KI (T : Tx) (av : Av) (r : List Addr) (H : Hp) (R : It → Hp → Prop) (it : MI) (m' : Mem) : Prop := ∀ r' H' J, Grow r H r' H' → RM T av r' H' m' → IOk T av r' H' it J → R J H'
noncomputable def tI (T : Tx) (W : WX) (mi : Env → Mem → Res MI) : TI := fun σ H R => ∃ av r e m, RE T av r H e σ ∧ RM T av r H m ∧ okR T av r H (fun c d H' => W c d σ H') (KI T av r H R) (mi e m)
structure SI (X : Cx) (T : Tx) (W : WX) (tg iter : Expr) (mi : Env → Mem → Res MI) : Prop where pi : PI X tg iter (tI T W mi)
theorem PI.imp {tg iter : Expr} {t t' : TI} (h : PI X tg iter t) (f : ∀ σ H R, t' σ H R → t σ H R) : PI X tg iter t' := ⟨fun pins s σ H R I q => h.run pins s σ H R I (f σ H R q)⟩
noncomputable def valsI (xs : List PV) : MI := fun _ i => some xs[i]?
noncomputable def memI (j : Nat) : MI := fun m i => match m[j]? with
  | some (.lst xs) => some xs[i]?
  | _ => none
noncomputable def mIT (ma : ME) : Env → Mem → Res MI := fun e m => (ma e m).bind fun v m1 => match v with
  | .tup xs => .ok (valsI xs) m1
  | _ => .bad
noncomputable def mIL (ma : ME) : Env → Mem → Res MI := fun e m => (ma e m).bind fun v m1 => match v with
  | .lst xs => .ok (valsI xs) m1
  | .ref j => match m1[j]? with
    | some (.lst _) => .ok (memI j) m1
    | _ => .bad
  | _ => .bad
theorem iok_tup (hK : X.K = T.K) {xs : List PV} {v : V} (h : RV T av r H (.tup xs) v) : ∃ a, v = .ref a ∧ (∃ vs, SqT X.K H a vs) ∧ IOk T av r H (valsI xs) (Itt X.K a) := by
  have h0 := h
  obtain ⟨a, vs, rfl, ha, hv⟩ := tup_ok hK h
  refine ⟨a, rfl, ⟨vs, ha⟩, fun av' r' H' m' i hw g rm => ?_⟩
  have h1 := (h0.widen hw).growA g
  obtain ⟨a', vs', e, ha', hv'⟩ := tup_ok hK h1
  cases e
  show match valsI xs m' i with
    | none => True
    | some none => _
    | some (some x) => _
  unfold valsI
  cases q : xs[i]? with
  | none => exact ⟨vs', ha', by rw [hv'.length]; exact List.getElem?_eq_none_iff.mp q⟩
  | some x =>
    obtain ⟨w, hw', rw'⟩ := hv'.get q
    exact ⟨⟨vs', w, ha', hw'⟩, fun v H2 y => by
      obtain ⟨rfl, y⟩ := y
      have e : some v = some w := (y vs' ha').symm.trans hw'
      cases e
      exact ⟨r', .refl, rm, rw'⟩⟩
theorem iok_lst {xs : List PV} {v : V} (h : RV T av r H (.lst xs) v) : ∃ a, v = .ref a ∧ (∃ vs, SqL X.K H a vs) ∧ IOk T av r H (valsI xs) (Itl X.K a) := by
  have h0 := h
  unfold RV at h
  obtain ⟨a, vs, rfl, o, ha, hv⟩ := h
  refine ⟨a, rfl, ⟨vs, .inl ha⟩, fun av' r' H' m' i hw g rm => ?_⟩
  have h1 := (h0.widen hw).growA g
  unfold RV at h1
  obtain ⟨a', vs', e, o', ha', hv'⟩ := h1
  cases e
  show match valsI xs m' i with
    | none => True
    | some none => _
    | some (some x) => _
  unfold valsI
  cases q : xs[i]? with
  | none => exact ⟨vs', .inl ha', by rw [hv'.length]; exact List.getElem?_eq_none_iff.mp q⟩
  | some x =>
    obtain ⟨w, hw', rw'⟩ := hv'.get q
    exact ⟨⟨vs', w, .inl ha', hw'⟩, fun v H2 y => by
      obtain ⟨rfl, y⟩ := y
      have e : some v = some w := (y vs' (.inl ha')).symm.trans hw'
      cases e
      exact ⟨r', .refl, rm, rw'⟩⟩
theorem iok_mem {j : Nat} {xs : List PV} {v : V} (rm : RM T av r H m) (h : RV T av r H (.ref j) v) (hx : m[j]? = some (.lst xs)) : ∃ a, v = .ref a ∧ (∃ vs, SqL X.K H a vs) ∧ IOk T av r H (memI j) (Itl X.K a) := by
  unfold RV at h
  obtain ⟨a, h1, rfl⟩ := h
  obtain ⟨vs, ha, hv⟩ := rm.ob j _ a hx h1
  refine ⟨a, rfl, ⟨vs, .inl (.inl ha)⟩, fun av' r' H' m' i hw g rm' => ?_⟩
  cases hq : m'[j]? with
  | none => simp only [memI, hq]
  | some o =>
    cases o with
    | ins _ _ => simp only [memI, hq]
    | dtt _ _ => simp only [memI, hq]
    | dnn _ _ => simp only [memI, hq]
    | dct _ _ => simp only [memI, hq]
    | lst ys =>
      obtain ⟨vs', ha', hv'⟩ := rm'.ob j _ a hq (get_growA g h1)
      simp only [memI, hq]
      cases q : ys[i]? with
      | none => exact ⟨vs', .inl (.inl ha'), by rw [hv'.length]; exact List.getElem?_eq_none_iff.mp q⟩
      | some x =>
        obtain ⟨w, hw', rw'⟩ := hv'.get q
        exact ⟨⟨vs', w, .inl (.inl ha'), hw'⟩, fun v H2 y => by
          obtain ⟨rfl, y⟩ := y
          have e : some v = some w := (y vs' (.inl (.inl ha'))).symm.trans hw'
          cases e
          exact ⟨r', .refl, rm', rw'⟩⟩
end M

namespace M
open PySem PySem.Spec PyProof.Rows L2
variable {X : Cx} {T : Tx} {W : WX} {a b c : Expr} {ma mb mc : ME} {mt mu : MT} {ms mv : MS} {pos : Pos} {st : Stmt} {rest sts : List Stmt}
variable {av av' : Av} {r r' r2 : List Addr} {H H' H2 : Hp} {m m' : Mem} {tg iter : Expr}

theorem si_tup (hK : X.K = T.K) (ha : SE X T W a ma) : SI X T W tg a (mIT ma) :=
  ⟨PI.imp (pi_tup ha.pe) fun σ H R ⟨av, r, e, m, re, rm, h⟩ => ⟨av, r, e, m, re, rm, okR_imp (okR_bind h) fun v m1 h r1 H1 w g1 rm1 rv => by
    split at h
    · obtain ⟨a, rfl, ha, iok⟩ := iok_tup (X := X) hK rv
      exact ⟨a, rfl, ha, h r1 H1 _ g1 rm1 iok⟩
    · exact h.elim⟩⟩
theorem si_lst (ha : SE X T W a ma) : SI X T W tg a (mIL ma) :=
  ⟨PI.imp (pi_list ha.pe) fun σ H R ⟨av, r, e, m, re, rm, h⟩ => ⟨av, r, e, m, re, rm, okR_imp (okR_bind h) fun v m1 h r1 H1 w g1 rm1 rv => by
    split at h
    · obtain ⟨a, rfl, ha, iok⟩ := iok_lst (X := X) rv
      exact ⟨a, rfl, ha, h r1 H1 _ g1 rm1 iok⟩
    · split at h
      · rename_i j _ xs hx
        obtain ⟨a, rfl, ha, iok⟩ := iok_mem (X := X) rm1 rv hx
        exact ⟨a, rfl, ha, h r1 H1 _ g1 rm1 iok⟩
      · exact h.elim
    · exact h.elim⟩⟩
noncomputable def rngI (lo : Int) (n : Nat) : MI := fun _ i => some (if i < n then some (.int (lo + i)) else none)
theorem iok_rng {lo : Int} {n : Nat} : IOk T av r H (rngI lo n) (Itr lo n) := fun av' r' H' m' i hw g rm => by
  unfold rngI
  by_cases h : i < n
  · rw [if_pos h]
    exact ⟨h, fun v H2 y => by
      obtain ⟨rfl, rfl⟩ := y
      exact ⟨r', .refl, rm, rv_int⟩⟩
  · rw [if_neg h]
    exact Nat.not_lt.mp h
noncomputable def big62 (i : Int) : Bool := decide (-(2 ^ 62) ≤ i) && decide (i < 2 ^ 62)
theorem big62_ok {i : Int} (h : big62 i = true) : -(2 ^ 62) ≤ i ∧ i < 2 ^ 62 := by
  unfold big62 at h
  rw [Bool.and_eq_true, decide_eq_true_eq, decide_eq_true_eq] at h
  exact h
noncomputable def mIR1 (mr : MA) : Env → Mem → Res MI := fun e m => (mr e m).bind fun vs m1 => match vs with
  | [.int j] => if big62 j then .ok (rngI 0 j.toNat) m1 else .bad
  | _ => .bad
noncomputable def mIR2 (mr : MA) : Env → Mem → Res MI := fun e m => (mr e m).bind fun vs m1 => match vs with
  | [.int i, .int j] => if big62 i && big62 j then .ok (rngI i (j - i).toNat) m1 else .bad
  | _ => .bad
theorem si_range1 {mr : MA} {p : Pos} (hg : Gl X "range") (hm : X.mg "range" = none) (ha : SA X T W [a] mr) (hs : starEach [a] X.env = [(false, eval a X.env)] := by rfl) : SI X T W tg (.Call (.Name "range" p) [a] [] pos) (mIR1 mr) :=
  ⟨PI.imp (pi_range1 hg hm ha.pa hs) fun σ H R ⟨av, r, e, m, re, rm, h⟩ => ⟨av, r, e, m, re, rm, okR_imp (okR_bind h) fun vs m1 h r1 H1 ws g1 rm1 rv => by
    split at h
    · rename_i j
      split at h
      · rename_i hb
        obtain ⟨w, rfl, hj⟩ := rvs1 rv
        obtain ⟨h1, h2⟩ := big62_ok hb
        exact ⟨j, by rw [hj.int'], h1, h2, h r1 H1 _ g1 rm1 iok_rng⟩
      · exact h.elim
    · exact h.elim⟩⟩
theorem si_range2 {mr : MA} {p : Pos} (hg : Gl X "range") (hm : X.mg "range" = none) (ha : SA X T W [a, b] mr) (hs : starEach [a, b] X.env = [(false, eval a X.env), (false, eval b X.env)] := by rfl) (hs2 : starEach [b] X.env = [(false, eval b X.env)] := by rfl) :
    SI X T W tg (.Call (.Name "range" p) [a, b] [] pos) (mIR2 mr) :=
  ⟨PI.imp (pi_range2 hg hm ha.pa hs hs2) fun σ H R ⟨av, r, e, m, re, rm, h⟩ => ⟨av, r, e, m, re, rm, okR_imp (okR_bind h) fun vs m1 h r1 H1 ws g1 rm1 rv => by
    split at h
    · rename_i i j
      split at h
      · rename_i hb
        rw [Bool.and_eq_true] at hb
        obtain ⟨w, u, rfl, hi, hj⟩ := rvs2 rv
        obtain ⟨h1, h2⟩ := big62_ok hb.1
        obtain ⟨h3, h4⟩ := big62_ok hb.2
        exact ⟨i, j, by rw [hi.int', hj.int'], ⟨h1, h2, h3, h4⟩, h r1 H1 _ g1 rm1 iok_rng⟩
      · exact h.elim
    · exact h.elim⟩⟩

noncomputable def forL (mg : MG) (body : MS) (it : MI) : Nat → Nat → Env → Mem → SRes
  | 0, _, _, _ => .bad
  | n + 1, i, e, m => match it m i with
    | none => .bad
    | some none => .nx e m
    | some (some x) => match mg x e m with
      | .ok e1 m1 => match body e1 m1 with
        | .nx e2 m2 => forL mg body it n (i + 1) e2 m2
        | .ct e2 m2 => forL mg body it n (i + 1) e2 m2
        | .bk e2 m2 => .nx e2 m2
        | x => x
      | _ => .bad
noncomputable def FUEL : Nat := 1000000
noncomputable def mFor (mi : Env → Mem → Res MI) (mg : MG) (body : MS) : MS := fun e m => sB (mi e m) e fun it m1 => forL mg body it FUEL 0 e m1
theorem okS_turn {D D' : Ends} {f : Env → Mem → SRes} (hn : ∀ e1 m1 r' H' σ', okS T av r H W D (f e1 m1) → Grow r H r' H' → RM T av r' H' m1 → RE T av r' H' e1 σ' → D'.nx σ' H') (hr : D'.rt = D.rt) (hb : D'.bk = D.nx) (hc : D'.ct = D'.nx) :
    ∀ {x : SRes}, okS T av r H W D (match x with
      | .nx e2 m2 => f e2 m2
      | .ct e2 m2 => f e2 m2
      | .bk e2 m2 => .nx e2 m2
      | x => x) → okS T av r H W D' x
  | .nx _ _, h => fun r2 H2 σ2 g rm re => hn _ _ r2 H2 σ2 h g rm re
  | .ct _ _, h => fun r2 H2 σ2 g rm re => hc ▸ hn _ _ r2 H2 σ2 h g rm re
  | .bk _ _, h => fun r2 H2 σ2 g rm re => hb ▸ h r2 H2 σ2 g rm re
  | .rt _ _, h => fun r2 H2 w g rm re => hr ▸ h r2 H2 w g rm re
  | .exc _ _ _ _, h => h
  | .bad, h => h
theorem ss_for {ts : List Nat} {mi : Env → Mem → Res MI} {mg : MG} (hp : PassesOwn (model X.prog X.w) X.A X.env X.xe) (hc : X.calm = true) (hi : SI X T W tg iter mi) (hg : SG X T ts tg mg) (hb : SB X T W rest ms) (hs : ∀ x, foldedSetIterable iter X.env x = pure x := by intro _; rfl) :
    SS X T W (.For tg iter rest [] pos) (mFor mi mg ms) :=
  ⟨PS.imp (ps_for hp hc hi.pi hg.pg hb.ps hs) fun D σ H ⟨av, r, e, m, re, rm, h⟩ => ⟨av, r, e, m, re, rm, okR_imp (okS_sB re h) fun it m1 h r1 H1 J g1 rm1 iok => by
    refine ⟨fun i n σ2 H2 => ∃ r2 e2 m2, Grow r1 H1 r2 H2 ∧ RE T av r2 H2 e2 σ2 ∧ RM T av r2 H2 m2 ∧ okS T av r2 H2 W D (forL mg ms it n i e2 m2), ⟨FUEL, r1, e, m1, .refl, re.grow g1, rm1, h.grow g1⟩, fun i n σ2 H2 hW => ?_⟩
    obtain ⟨r2, e2, m2, g2, re2, rm2, h2⟩ := hW
    cases n with
    | zero => exact h2.elim
    | succ n =>
      have hio := iok av r2 H2 m2 i (fun _ z => .inl z) g2.toA rm2
      unfold forL at h2
      split at h2
      · exact h2.elim
      · rename_i hit
        rw [hit] at hio
        exact .inl ⟨hio, h2 r2 H2 σ2 .refl rm2 re2⟩
      · rename_i x hit
        rw [hit] at hio
        refine .inr ⟨hio.1, fun σ' H' => ∃ m', m' < n + 1 ∧ ∃ r3 e3 m3, Grow r1 H1 r3 H' ∧ RE T av r3 H' e3 σ' ∧ RM T av r3 H' m3 ∧ okS T av r3 H' W D (forL mg ms it m' (i + 1) e3 m3), fun σ' H' h => h, fun v H3 y => ?_⟩
        obtain ⟨r3, g3, rm3, rv3⟩ := hio.2 v H3 y
        refine ⟨av, r3, e2, m2, x, re2.grow g3, rm3, rv3, ?_⟩
        split at h2
        · rename_i e4 m4 hmg
          rw [hmg]
          intro r4 H4 σ4 g4 rm4 re4 _
          refine ⟨av, r4, e4, m4, re4, rm4, ?_⟩
          have g34 := g3.trans g4
          refine okS_turn (D := D) (f := forL mg ms it n (i + 1)) (fun e5 m5 r5 H5 σ5 h g5 rm5 re5 => ?_) ?_ ?_ ?_ (h2.grow g34)
          · exact ⟨n, Nat.lt_succ_self n, r5, e5, m5, (g2.trans g34).trans g5, re5, rm5, h.grow g5⟩
          · rfl
          · rfl
          · rfl
        · exact h2.elim⟩⟩

noncomputable def wipeE (e : Env) : List Nat → Env
  | [] => e
  | v :: vs => (wipeE e vs).set v none
theorem RE.setN {v : Option V} : ∀ {e : Env} {s : L2.St} (i : Nat), RE T av r H e s → RE T av r H (e.set i none) (s.set i v)
  | _, _, _, .nil => .nil
  | _, _, 0, .cons _ t => .cons (fun v' hv => by cases hv) t
  | _, _, i + 1, .cons h t => .cons h (RE.setN i t)
theorem RE.wipe {e : Env} {s : L2.St} (h : RE T av r H e s) : ∀ vs : List Nat, RE T av r H (wipeE e vs) (wipe s vs)
  | [] => h
  | v :: vs => (RE.wipe h vs).setN v
theorem wipe_get {s : L2.St} : ∀ {vs : List Nat} {j : Nat}, j ∈ vs → j < s.length → (wipe s vs)[j]? = some none
  | [], j, h, _ => by cases h
  | v :: vs, j, h, hl => by
    unfold wipe
    by_cases e : v = j
    · subst e
      rw [List.getElem?_set_self (by rw [wipe_length]; exact hl)]
    · rw [List.getElem?_set_ne e]
      exact wipe_get ((List.mem_cons.mp h).resolve_left (fun z => e z.symm)) hl
theorem wipe_off {s : L2.St} {j : Nat} : ∀ {vs : List Nat}, j ∉ vs → (wipe s vs)[j]? = s[j]?
  | [], _ => rfl
  | v :: vs, h => by
    unfold wipe
    rw [List.getElem?_set_ne (fun z => h (by simp [z]))]
    exact wipe_off (fun z => h (List.mem_cons_of_mem _ z))
theorem wipe_agree {s s' : L2.St} {vs : List Nat} (h : Agree vs (wipe s vs) s') : wipe s' vs = wipe s vs := by
  apply List.ext_getElem?
  intro j
  by_cases hj : j ∈ vs
  · by_cases hl : j < s.length
    · rw [wipe_get hj hl, wipe_get hj (by rw [← h.1, wipe_length]; exact hl)]
    · rw [List.getElem?_eq_none (by rw [wipe_length, ← h.1, wipe_length]; exact Nat.not_lt.mp hl), List.getElem?_eq_none (by rw [wipe_length]; exact Nat.not_lt.mp hl)]
  · rw [wipe_off hj, h.2 j hj]
structure STs (X : Cx) (T : Tx) (W : WX) (ifs : List Expr) (mt : MT) : Prop where pts : PTs X ifs (tT T W mt)
theorem PTs.imp {ifs : List Expr} {t t' : TT} (h : PTs X ifs t) (f : ∀ σ H Q, t' σ H Q → t σ H Q) : PTs X ifs t' := ⟨fun pins s σ H Q I q => h.run pins s σ H Q I (f σ H Q q)⟩
noncomputable def mYes : MT := fun _ m => .ok true m
theorem sts_nil : STs X T W [] mYes := ⟨PTs.imp pts_nil fun σ H Q ⟨av, r, e, m, re, rm, h⟩ => h r H .refl rm⟩
theorem sts_one (h : ST X T W c mt) : STs X T W [c] mt := ⟨pts_one h.pt⟩
noncomputable def Res.calm {s : Type} (x : Res s) : Res s := match x with
  | .ok v m => .ok v m
  | _ => .bad
theorem okR_calm {W0 W1 : Value → Option Addr → Hp → Prop} {s t : Type} {K : t → Mem → Prop} {f : s → Mem → Res t} {r1 : List Addr} {H1 : Hp} {av1 : Av} {x : Res s} (h : okR T av r H W0 K (x.calm.bind f)) : okR T av1 r1 H1 W1 (fun v m => okR T av r H W0 K (f v m)) x := by
  cases x with
  | ok v m => exact h
  | exc c ws m => exact h.elim
  | bad => exact h.elim
noncomputable def lcL (mg : MG) (t : MT) (me : ME) (ew : Env) (it : MI) : Nat → Nat → List PV → Mem → Res (List PV)
  | 0, _, _, _ => .bad
  | n + 1, i, acc, m => match it m i with
    | none => .bad
    | some none => .ok acc.reverse m
    | some (some x) => (mg x ew m).calm.bind fun e1 m1 => (t e1 m1).calm.bind fun b m2 =>
      if b then (me e1 m2).calm.bind fun v m3 => if szOk acc.length then lcL mg t me ew it n (i + 1) (v :: acc) m3 else .bad
      else lcL mg t me ew it n (i + 1) acc m2
noncomputable def mLc (mi : Env → Mem → Res MI) (mg : MG) (t : MT) (me : ME) (vs : List Nat) : MA := fun e m => (mi e m).bind fun it m1 => lcL mg t me (wipeE e vs) it FUEL 0 [] m1
noncomputable abbrev Avp (av : Av) (p : Addr) : Av := fun a => av a ∨ a = p
mutual
theorem RV.rewrite {p : Addr} {o : HO} : ∀ (x : PV) {v : V}, RV T (Avp av p) r H x v → RV T (Avp av p) r (upd H p o) x v
  | .non, _, h => by unfold RV at *; exact h
  | .bl _, _, h => by unfold RV at *; exact h
  | .int _, _, h => by unfold RV at *; exact h
  | .str _, _, h => by unfold RV at *; exact h
  | .tup xs, _, h => by
    unfold RV at *
    obtain ⟨a, vs, e, h1, h2⟩ := h
    refine ⟨a, vs, e, ?_, RVs.rewrite xs h2⟩
    rcases h1 with ⟨o, d⟩ | k | ⟨kt, o, ob, d⟩
    · refine .inl ⟨o, ?_⟩
      have ne : a ≠ p := fun z => o.1 (.inr z)
      rw [upd_ne ne]
      exact d
    · exact .inr (.inl k)
    · exact .inr (.inr ⟨kt, o, ob, (by rw [upd_ne (fun z => o.1 (.inr z))]; exact d)⟩)
  | .kst xs, _, h => by
    unfold RV at *
    obtain ⟨a, vs, e, k, h2⟩ := h
    exact ⟨a, vs, e, k, RVs.rewrite xs h2⟩
  | .lst xs, _, h => by
    unfold RV at *
    obtain ⟨a, vs, e, o, d, h2⟩ := h
    refine ⟨a, vs, e, o, ?_, RVs.rewrite xs h2⟩
    have ne : a ≠ p := fun z => o.1 (.inr z)
    rcases d with d | ⟨o', d⟩
    · exact .inl (by rw [upd_ne ne]; exact d)
    · exact .inr ⟨o', by rw [upd_ne ne]; exact d⟩
  | .ins c ws, _, h => by
    unfold RV at *
    obtain ⟨a, dx, fs, e, o, d, n, h2⟩ := h
    exact ⟨a, dx, fs, e, o, by rw [upd_ne (fun z => o.1 (.inr z))]; exact d, n, RVs.rewrite ws h2⟩
  | .dtt ks ws, _, h => by
    unfold RV at *
    obtain ⟨a, kvs, e, o, d, nm, h2⟩ := h
    refine ⟨a, kvs, e, o, ?_, nm, RVs.rewrite ws h2⟩
    have ne : a ≠ p := fun z => o.1 (.inr z)
    rcases d with d | ⟨o', d⟩
    · exact .inl (by rw [upd_ne ne]; exact d)
    · exact .inr ⟨o', by rw [upd_ne ne]; exact d⟩
  | .exn c ws, _, h => by
    unfold RV at *
    obtain ⟨a, dx, fs, ex, e, o, d, n, h2⟩ := h
    exact ⟨a, dx, fs, ex, e, o, by rw [upd_ne (fun z => o.1 (.inr z))]; exact d, n, RVs.rewrite ws h2⟩
  | .dct ks ws, _, h => by
    unfold RV at *
    obtain ⟨a, vs, e, o, d, h2⟩ := h
    refine ⟨a, vs, e, o, ?_, RVs.rewrite ws h2⟩
    have ne : a ≠ p := fun z => o.1 (.inr z)
    rcases d with ⟨kvs, d | ⟨o', d⟩, q⟩ | ⟨kvs, d | ⟨o', d⟩, q⟩
    · exact .inl ⟨kvs, .inl (by rw [upd_ne ne]; exact d), q⟩
    · exact .inl ⟨kvs, .inr ⟨o', by rw [upd_ne ne]; exact d⟩, q⟩
    · exact .inr ⟨kvs, .inl (by rw [upd_ne ne]; exact d), q⟩
    · exact .inr ⟨kvs, .inr ⟨o', by rw [upd_ne ne]; exact d⟩, q⟩
  | .glo _, _, h => by unfold RV at *; exact h
  | .opq, _, _ => by unfold RV; trivial
  | .ftup xs, _, h => by
    unfold RV at *
    obtain ⟨a, vs, ob, e, kt, dn, o, d, h2⟩ := h
    exact ⟨a, vs, ob, e, kt, dn, o, (by rw [upd_ne (fun z => o.1 (.inr z))]; exact d), RVs.rewrite xs h2⟩
  | .clo0 l, _, h => by
    unfold RV at *
    obtain ⟨f, c, F, φ, ψ, cl, e, z, o1, d1, o2, d2⟩ := h
    exact ⟨f, c, F, φ, ψ, cl, e, z, o1, (by rw [upd_ne (fun z => o1.1 (.inr z))]; exact d1), o2, (by rw [upd_ne (fun z => o2.1 (.inr z))]; exact d2)⟩
  | .clo l xs, _, h => by
    unfold RV at *
    obtain ⟨f, c, F, φ, ψ, cl, vs, e, z, o1, d1, o2, d2, ct, h2⟩ := h
    exact ⟨f, c, F, φ, ψ, cl, vs, e, z, o1, (by rw [upd_ne (fun z => o1.1 (.inr z))]; exact d1), o2, (by rw [upd_ne (fun z => o2.1 (.inr z))]; exact d2), ct.imp (fun a ob o d => ⟨o, (by rw [upd_ne (fun z => o.1 (.inr z))]; exact d)⟩), RVs.rewrite xs h2⟩
  | .lam l, _, h => by
    unfold RV at *
    obtain ⟨f, c, F, φ, ψ, e, z, o1, d1, o2, d2⟩ := h
    exact ⟨f, c, F, φ, ψ, e, z, o1, (by rw [upd_ne (fun z => o1.1 (.inr z))]; exact d1), o2, (by rw [upd_ne (fun z => o2.1 (.inr z))]; exact d2)⟩
  | .ref i, _, h => by unfold RV at *; exact h
theorem RVs.rewrite {p : Addr} {o : HO} : ∀ (xs : List PV) {vs : List V}, RVs T (Avp av p) r H xs vs → RVs T (Avp av p) r (upd H p o) xs vs
  | [], _, h => by unfold RVs at *; exact h
  | x :: xs, _, h => by
    unfold RVs at *
    obtain ⟨v, ws, e, h1, h2⟩ := h
    exact ⟨v, ws, e, RV.rewrite x h1, RVs.rewrite xs h2⟩
end
noncomputable def Solid : Option HO → Prop
  | some (.tbl _) => False
  | some (.ext φ) => ∀ c q, HO.ext φ ≠ LamX.CodeO c q
  | _ => True

theorem tab_upd {p P : Addr} {o : HO} {q : Str} (hs : Solid (H p)) (t : LamX.TabS H P q) : LamX.TabS (upd H p o) P q := by
  obtain ⟨ps, h1, h2, h3⟩ := t
  refine ⟨ps, ?_, h2, fun pos cv hc => ?_⟩
  · rw [upd_ne (fun z => by rw [← z, h1] at hs; exact hs)]; exact h1
  · obtain ⟨c, e1, e2⟩ := h3 pos cv hc
    exact ⟨c, e1, by rw [upd_ne (fun z => by rw [← z, e2] at hs; exact hs c q rfl)]; exact e2⟩
theorem RM.rewrite {p : Addr} {o : HO} (hp : p ∉ r) (hs : Solid (H p)) (h : RM T (Avp av p) r H m) (ho : nTbl o := by trivial) (hu : nTup o := by trivial) : RM T (Avp av p) r (upd H p o) m :=
  ⟨h.len, h.nd, fun i x a h1 h2 => by
    have ne : a ≠ p := fun z => hp (z ▸ List.mem_of_getElem? h2)
    have q := h.ob i x a h1 h2
    cases x with
    | lst xs => obtain ⟨vs, h1, h2⟩ := q; exact ⟨vs, by rw [upd_ne ne]; exact h1, h2.rewrite⟩
    | ins c ws => obtain ⟨dx, fs, h1, h2, h3, h4⟩ := q; exact ⟨dx, fs, by rw [upd_ne ne]; exact h1, h2, h3.rewrite, h4⟩
    | dtt ks ws => obtain ⟨kvs, h1, h2, h3⟩ := q; exact ⟨kvs, by rw [upd_ne ne]; exact h1, h2, h3.rewrite⟩
    | dnn ks ws => obtain ⟨xs, vs, h1, h2, h3, h4, h5⟩ := q; exact ⟨xs, vs, by rw [upd_ne ne]; exact h1, h2, h3.rewrite, h4.rewrite, h5⟩
    | dct ks ws => obtain ⟨vs, h1, h2⟩ := q; exact ⟨vs, dm_upd ne h1, h2.rewrite⟩, fun q hq => tab_upd hs (h.tb q hq), fun a ha => by
    by_cases z : a = p
    · subst z; exact ⟨o, upd_same, ho⟩
    · obtain ⟨u, e, t⟩ := h.th a ha
      exact ⟨u, by rw [upd_ne z]; exact e, t⟩, fun a ha vs e => by
    by_cases z : a = p
    · subst z
      rw [upd_same] at e
      cases e
      exact hu
    · rw [upd_ne z] at e
      exact h.nt a ha vs e⟩
theorem grow_rw {p : Addr} {o : HO} (hp : ¬ Hard H p) (g : Grow r H r' H') : Grow r H r' (upd H' p o) :=
  ⟨g.ext, fun b u e n t => by rw [upd_ne (fun z => hp ⟨u, by rw [← z]; exact e, nTbl_of t⟩)]; exact g.keep b u e n t, fun b e => by
    obtain ⟨u, q, t⟩ := g.there b e
    have ne : b ≠ p := fun z => hp (by rw [← z]; exact e)
    exact ⟨u, by rw [upd_ne ne]; exact q, t⟩⟩
theorem RVs.rev1 {x : PV} {v : V} : ∀ {acc : List PV} {vs : List V}, RVs T av r H acc.reverse vs → RV T av r H x v → RVs T av r H (x :: acc).reverse (vs ++ [v]) := fun {acc vs} h hx => by
  rw [List.reverse_cons]
  exact h.append (by unfold RVs; exact ⟨v, [], rfl, hx, by unfold RVs; rfl⟩)
theorem lc_read {ts vs0 : List Nat} {mi : Env → Mem → Res MI} {mg : MG} (hts : ts.all (fun j => vs0.contains j) = true) {σ : L2.St} {H : Hp} {Q : VK} (h : tF T W (mLc mi mg mt ma vs0) σ H Q) :
    tLc (tI T W mi) (tG T ts mg) (tT T (fun _ _ _ _ => False) mt) (tE T (fun _ _ _ _ => False) ma) vs0 σ H Q := by
  obtain ⟨av, r, e, m, re, rm, h⟩ := h
  exact
    ⟨av, r, e, m, re, rm, okR_imp (okR_bind h) fun it m1 h r1 H1 J g1 rm1 iok D hD => by
      have hwd : ∀ a, Avp av D a → av a ∨ ¬ Hard H1 a := fun a z => z.elim .inl fun z => .inr (by rw [z]; exact soft hD)
      refine ⟨fun i n H2 => ∃ r2 m2 acc vs, Grow r1 H1 r2 H2 ∧ D ∉ r2 ∧ H2 D = some (.lst vs) ∧ RM T (Avp av D) r2 H2 m2 ∧ RVs T (Avp av D) r2 H2 acc.reverse vs ∧ okR T av r H (fun c d H' => W c d σ H') (KF T av r H Q) (lcL mg mt ma (wipeE e (vs0)) it n i acc m2),
        ⟨FUEL, r1, m1, [], [], grow_upd hD, rm1.fresh hD, upd_same, rm1.away hD, by show RVs T _ _ _ [] []; unfold RVs; rfl, h⟩, fun i n H2 hW => ?_⟩
      obtain ⟨r2, m2, acc, vs, g2, nD, hl, rm2, rvs, h2⟩ := hW
      cases n with
      | zero => exact h2.elim
      | succ n =>
        have hio := iok (Avp av D) r2 H2 m2 i hwd g2.toA rm2
        unfold lcL at h2
        split at h2
        · exact h2.elim
        · rename_i hit
          rw [hit] at hio
          exact .inl ⟨hio, h2 r2 H2 D vs (g1.trans g2) (g1.none (soft hD)) nD hl rm2 rvs⟩
        · rename_i x hit
          rw [hit] at hio
          refine .inr ⟨hio.1, fun H' => ∃ m', m' < n + 1 ∧ ∃ r2 m2 acc vs, Grow r1 H1 r2 H' ∧ D ∉ r2 ∧ H' D = some (.lst vs) ∧ RM T (Avp av D) r2 H' m2 ∧ RVs T (Avp av D) r2 H' acc.reverse vs ∧ okR T av r H (fun c d H' => W c d σ H') (KF T av r H Q) (lcL mg mt ma (wipeE e (vs0)) it m' (i + 1) acc m2), fun H' h => h, fun v H3 y => ?_⟩
          obtain ⟨r3, g3, rm3, rv3⟩ := hio.2 v H3 y
          have reW : RE T (Avp av D) r3 H3 (wipeE e (vs0)) (wipe σ (vs0)) := (RE.map (fun x v q => ((q.grow g1).widen hwd).grow (g2.trans g3)) re).wipe _
          refine ⟨Avp av D, r3, _, m2, x, reW, rm3, rv3, okR_imp (okR_calm h2) fun e4 m4 h r4 H4 σ4 g4 rm4 re4 ag4 => ⟨?_, ?_⟩⟩
          · exact wipe_agree (ag4.mono fun j hj => by
              have q := List.all_eq_true.mp hts j hj
              rwa [List.contains_iff_mem] at q)
          · refine ⟨Avp av D, r4, e4, m4, re4, rm4, okR_imp (okR_calm h) fun b m5 h r5 H5 g5 rm5 => ?_⟩
            have g25 := (g3.trans g4).trans g5
            cases b with
            | true =>
              refine iteT ⟨Avp av D, r5, e4, m5, re4.grow g5, rm5, okR_imp (okR_calm h) fun z m6 h r6 H6 w g6 rm6 rw6 => ?_⟩
              have g26 := g25.trans g6
              split at h
              · rename_i hz
                have hl6 : H6 D = some (.lst vs) := g26.keep D _ hl nD (fun ps z => by cases z)
                have n6 : D ∉ r6 := by
                  obtain ⟨more, em, fm⟩ := g26.ext
                  rw [em]
                  intro hm
                  rcases List.mem_append.mp hm with q | q
                  · exact nD q
                  · exact fm D q ⟨_, hl, trivial⟩
                refine ⟨vs, hl6, by rw [rvs.length, List.length_reverse]; exact szOk_lt hz, n, Nat.lt_succ_self n, r6, m6, z :: acc, vs ++ [w], grow_rw (soft hD) (g2.trans g26), n6, upd_same, rm6.rewrite n6 (by rw [hl6]; trivial), (RVs.rev1 (rvs.grow g26) rw6).rewrite, h⟩
              · exact h.elim
            | false =>
              have n5 : D ∉ r5 := by
                obtain ⟨more, em, fm⟩ := g25.ext
                rw [em]
                intro hm
                rcases List.mem_append.mp hm with q | q
                · exact nD q
                · exact fm D q ⟨_, hl, trivial⟩
              exact iteF ⟨n, Nat.lt_succ_self n, r5, m5, acc, vs, g2.trans g25, n5, g25.keep D _ hl nD (fun ps z => by cases z), rm5, rvs.grow g25, h⟩⟩
theorem sf_lc {ifs : List Expr} {scope : Scope} {own : List (Str × Nat)} {ts : List Nat} {mi : Env → Mem → Res MI} {mg : MG} (hc : X.calm = true) (hN : X.N.Nodup) (hi : SI X T W tg iter mi) (ok : blkC X.N X.env.scope scope own = true)
    (hg : ∀ (s : Shared) (H : Hp) (C : Addr) (cl : List (Str × Addr)) (fp : List Addr), SG (X.blk s H scope (compEnvC scope cl C X.env) fp) T ts tg mg)
    (ht : ∀ (s : Shared) (H : Hp) (C : Addr) (cl : List (Str × Addr)) (fp : List Addr), STs (X.blk s H scope (compEnvC scope cl C X.env) fp) T (fun _ _ _ _ => False) ifs mt)
    (he : ∀ (s : Shared) (H : Hp) (C : Addr) (cl : List (Str × Addr)) (fp : List Addr), SE (X.blk s H scope (compEnvC scope cl C X.env) fp) T (fun _ _ _ _ => False) a ma)
    (hts : ts.all (fun j => (own.map (·.2)).contains j) = true) (hs : ∀ x, foldedSetIterable iter X.env x = pure x := by intro _; rfl) :
    SF X T W (.ListComp a [⟨tg, iter, ifs, 0⟩] scope pos) (mLc mi mg mt ma (own.map (·.2))) :=
  ⟨PE.imp (pe_lc hc hN hi.pi (blkOk_by ok) (fun s H C cl fp => (hg s H C cl fp).pg) (fun s H C cl fp => (ht s H C cl fp).pts) (fun s H C cl fp => (he s H C cl fp).pe) hs) fun σ H Q h => lc_read hts h⟩
theorem set_lst {i : Nat} {D : Ends} {mf : MA} {σ : L2.St} {H : Hp} (h : tS T W (mSet i (mL mf)) D σ H) : tF T W mf σ H (fun x H1 => D.nx (σ.set i (some x)) H1) := by
  obtain ⟨av, r, e, m, re, rm, h⟩ := h
  refine ⟨av, r, e, m, re, rm, okR_imp (okR_bind (okS_sB re h)) fun vs m1 h r1 H1 p ws g1 hp np hl rm1 rvs => ?_⟩
  exact h r1 H1 _ g1 rm1.near ((re.grow g1).set (by unfold RV; exact ⟨p, ws, rfl, ⟨rm.freshB hp, np⟩, .inl hl, rvs.near⟩) i)
section
variable {i : Nat} {y : Str} {py spos : Pos} {ifs : List Expr} {scope : Scope} {own : List (Str × Nat)} {ts : List Nat} {mi : Env → Mem → Res MI} {mg : MG}
theorem lc_stmt {ms : MS} (hset : ∀ {D : Ends} {σ : L2.St} {H : Hp}, tS T W ms D σ H → tF T W (mLc mi mg mt ma (own.map (·.2))) σ H (fun x H1 => D.nx (σ.set i (some x)) H1))
    (hc : X.calm = true) (hN : X.N.Nodup) (hy : X.N[i]? = some y) (hyl : X.env.scope.names.lookup y = some .local) (hsw : swapsWith (.ListComp a [⟨tg, iter, ifs, 0⟩] scope pos) (some (.Name y py)) spos.line X.env = pure true)
    (hi : SI X T W tg iter mi) (ok : blkC X.N X.env.scope scope own = true)
    (hg : ∀ (s : Shared) (H : Hp) (C : Addr) (cl : List (Str × Addr)) (fp : List Addr), SG (X.blk s H scope (compEnvC scope cl C X.env) fp) T ts tg mg)
    (ht : ∀ (s : Shared) (H : Hp) (C : Addr) (cl : List (Str × Addr)) (fp : List Addr), STs (X.blk s H scope (compEnvC scope cl C X.env) fp) T (fun _ _ _ _ => False) ifs mt)
    (he : ∀ (s : Shared) (H : Hp) (C : Addr) (cl : List (Str × Addr)) (fp : List Addr), SE (X.blk s H scope (compEnvC scope cl C X.env) fp) T (fun _ _ _ _ => False) a ma)
    (hts : ts.all (fun j => (own.map (·.2)).contains j) = true) (hs : ∀ x, foldedSetIterable iter X.env x = pure x := by intro _; rfl) :
    SS X T W (.Assign [.Name y py] (.ListComp a [⟨tg, iter, ifs, 0⟩] scope pos) spos) ms :=
  ⟨PS.imp (ps_setLc hc hN hy hyl hsw hi.pi (blkOk_by ok) (fun s H C cl fp => (hg s H C cl fp).pg) (fun s H C cl fp => (ht s H C cl fp).pts) (fun s H C cl fp => (he s H C cl fp).pe) hs) fun D σ H h => lc_read hts (hset h)⟩
end
end M

namespace M
open PySem PySem.Spec PyProof.Rows L2
variable {X : Cx} {T : Tx} {W : WX} {a b c : Expr} {ma mb mc : ME} {mt mu : MT} {ms mv : MS} {pos : Pos} {st : Stmt} {rest sts : List Stmt}
variable {av av' : Av} {r r' r2 : List Addr} {H H' H2 : Hp} {m m' : Mem} {tg iter : Expr}

theorem rd_out {p a : Addr} {o u : HO} (ne : a ≠ p) (d : Rd H a u) : Rd (upd H p o) a u := by
  rcases d with d | ⟨o', d⟩
  · exact .inl (by rw [upd_ne ne]; exact d)
  · exact .inr ⟨o', by rw [upd_ne ne]; exact d⟩
mutual
theorem RV.out {p : Addr} {o : HO} (hp : ∀ b, Out av r b → b ≠ p) : ∀ (x : PV) {v : V}, RV T av r H x v → RV T av r (upd H p o) x v
  | .non, _, h => by unfold RV at *; exact h
  | .bl _, _, h => by unfold RV at *; exact h
  | .int _, _, h => by unfold RV at *; exact h
  | .str _, _, h => by unfold RV at *; exact h
  | .tup xs, _, h => by
    unfold RV at *
    obtain ⟨a, vs, e, h1, h2⟩ := h
    refine ⟨a, vs, e, ?_, RVs.out hp xs h2⟩
    rcases h1 with ⟨o, d⟩ | k | ⟨kt, o, ob, d⟩
    · exact .inl ⟨o, by rw [upd_ne (hp a o)]; exact d⟩
    · exact .inr (.inl k)
    · exact .inr (.inr ⟨kt, o, ob, (by rw [upd_ne (hp _ o)]; exact d)⟩)
  | .kst xs, _, h => by
    unfold RV at *
    obtain ⟨a, vs, e, k, h2⟩ := h
    exact ⟨a, vs, e, k, RVs.out hp xs h2⟩
  | .lst xs, _, h => by
    unfold RV at *
    obtain ⟨a, vs, e, o, d, h2⟩ := h
    exact ⟨a, vs, e, o, rd_out (hp a o) d, RVs.out hp xs h2⟩
  | .ins c ws, _, h => by
    unfold RV at *
    obtain ⟨a, dx, fs, e, o, d, n, h2⟩ := h
    exact ⟨a, dx, fs, e, o, by rw [upd_ne (hp a o)]; exact d, n, RVs.out hp ws h2⟩
  | .dtt ks ws, _, h => by
    unfold RV at *
    obtain ⟨a, kvs, e, o, d, nm, h2⟩ := h
    exact ⟨a, kvs, e, o, rd_out (hp a o) d, nm, RVs.out hp ws h2⟩
  | .exn c ws, _, h => by
    unfold RV at *
    obtain ⟨a, dx, fs, ex, e, o, d, n, h2⟩ := h
    exact ⟨a, dx, fs, ex, e, o, by rw [upd_ne (hp dx o)]; exact d, n, RVs.out hp ws h2⟩
  | .dct ks ws, _, h => by
    unfold RV at *
    obtain ⟨a, vs, e, o, d, h2⟩ := h
    refine ⟨a, vs, e, o, ?_, RVs.out hp ws h2⟩
    rcases d with ⟨kvs, d, q⟩ | ⟨kvs, d, q⟩
    · exact .inl ⟨kvs, rd_out (hp a o) d, q⟩
    · exact .inr ⟨kvs, rd_out (hp a o) d, q⟩
  | .glo _, _, h => by unfold RV at *; exact h
  | .opq, _, _ => by unfold RV; trivial
  | .ftup xs, _, h => by
    unfold RV at *
    obtain ⟨a, vs, ob, e, kt, dn, o, d, h2⟩ := h
    exact ⟨a, vs, ob, e, kt, dn, o, (by rw [upd_ne (hp _ o)]; exact d), RVs.out hp xs h2⟩
  | .clo0 l, _, h => by
    unfold RV at *
    obtain ⟨f, c, F, φ, ψ, cl, e, z, o1, d1, o2, d2⟩ := h
    exact ⟨f, c, F, φ, ψ, cl, e, z, o1, (by rw [upd_ne (hp _ o1)]; exact d1), o2, (by rw [upd_ne (hp _ o2)]; exact d2)⟩
  | .clo l xs, _, h => by
    unfold RV at *
    obtain ⟨f, c, F, φ, ψ, cl, vs, e, z, o1, d1, o2, d2, ct, h2⟩ := h
    exact ⟨f, c, F, φ, ψ, cl, vs, e, z, o1, (by rw [upd_ne (hp _ o1)]; exact d1), o2, (by rw [upd_ne (hp _ o2)]; exact d2), ct.imp (fun a ob o d => ⟨o, (by rw [upd_ne (hp _ o)]; exact d)⟩), RVs.out hp xs h2⟩
  | .lam l, _, h => by
    unfold RV at *
    obtain ⟨f, c, F, φ, ψ, e, z, o1, d1, o2, d2⟩ := h
    exact ⟨f, c, F, φ, ψ, e, z, o1, (by rw [upd_ne (hp f o1)]; exact d1), o2, (by rw [upd_ne (hp c o2)]; exact d2)⟩
  | .ref i, _, h => by unfold RV at *; exact h
theorem RVs.out {p : Addr} {o : HO} (hp : ∀ b, Out av r b → b ≠ p) : ∀ (xs : List PV) {vs : List V}, RVs T av r H xs vs → RVs T av r (upd H p o) xs vs
  | [], _, h => by unfold RVs at *; exact h
  | x :: xs, _, h => by
    unfold RVs at *
    obtain ⟨v, ws, e, h1, h2⟩ := h
    exact ⟨v, ws, e, RV.out hp x h1, RVs.out hp xs h2⟩
end
theorem out_mem {p : Addr} (hp : p ∈ r) : ∀ b, Out av r b → b ≠ p := fun b o z => o.2 (z ▸ hp)
theorem RM.write {j : Nat} {p : Addr} {o : HO} {x : MO} (h : RM T av r H m) (hj : r[j]? = some p) (hs : Solid (H p)) (hx : RO T av r (upd H p o) x p) (ho : nTbl o := by trivial) : RM T av r (upd H p o) (m.set j x) := by
  have hp : p ∈ r := List.mem_of_getElem? hj
  refine ⟨by rw [List.length_set]; exact h.len, h.nd, fun i y a h1 h2 => ?_, fun q hq => tab_upd hs (h.tb q hq), fun a ha => ?_, fun a ha vs e => ?_⟩
  · by_cases e : i = j
    · subst e
      have e2 : a = p := Option.some.inj (h2.symm.trans hj)
      subst e2
      have hl : i < m.length := by rw [← h.len]; exact (List.getElem?_eq_some_iff.mp hj).1
      rw [List.getElem?_set_self hl] at h1
      cases h1
      exact hx
    · rw [List.getElem?_set_ne (Ne.symm e)] at h1
      have ne : a ≠ p := fun z => e (by
        subst z
        obtain ⟨l1, e1⟩ := List.getElem?_eq_some_iff.mp h2
        obtain ⟨l2, e2⟩ := List.getElem?_eq_some_iff.mp hj
        exact (List.getElem_inj h.nd).mp (e1.trans e2.symm))
      have q := h.ob i y a h1 h2
      cases y with
      | lst xs => obtain ⟨vs, h1, h2⟩ := q; exact ⟨vs, by rw [upd_ne ne]; exact h1, h2.out (out_mem hp)⟩
      | ins c ws => obtain ⟨dx, fs, h1, h2, h3, h4⟩ := q; exact ⟨dx, fs, by rw [upd_ne ne]; exact h1, h2, h3.out (out_mem hp), h4⟩
      | dtt ks ws => obtain ⟨kvs, h1, h2, h3⟩ := q; exact ⟨kvs, by rw [upd_ne ne]; exact h1, h2, h3.out (out_mem hp)⟩
      | dct ks ws => obtain ⟨vs, h1, h2⟩ := q; exact ⟨vs, dm_upd ne h1, h2.out (out_mem hp)⟩
      | dnn ks ws => obtain ⟨xs, vs, h1, h2, h3, h4, h5⟩ := q; exact ⟨xs, vs, by rw [upd_ne ne]; exact h1, h2, h3.out (out_mem hp), h4.out (out_mem hp), h5⟩
  · by_cases z : a = p
    · subst z; exact ⟨o, upd_same, ho⟩
    · obtain ⟨u, e, t⟩ := h.th a ha
      exact ⟨u, by rw [upd_ne z]; exact e, t⟩
  · by_cases z : a = p
    · subst z
      cases x with
      | lst xs => obtain ⟨us, h1, _⟩ := hx; rw [e] at h1; cases h1; trivial
      | ins c ws => obtain ⟨dx, fs, h1, _⟩ := hx; rw [e] at h1; cases h1; trivial
      | dtt ks ws => obtain ⟨kvs, h1, _⟩ := hx; rw [e] at h1; cases h1; trivial
      | dnn ks ws => obtain ⟨xs, us, h1, _⟩ := hx; rw [e] at h1; cases h1; exact fun _ _ => nd_code
      | dct ks ws =>
        obtain ⟨us, h1, _⟩ := hx
        rcases h1 with ⟨_, d, _⟩ | ⟨_, d, _⟩ <;> (rw [e] at d; cases d; trivial)
    · rw [upd_ne z] at e
      exact h.nt a ha vs e
theorem grow_write {p : Addr} {o : HO} (hp : p ∈ r) (ho : nTbl o := by trivial) : Grow r H r (upd H p o) :=
  ⟨⟨[], by simp, by simp⟩, fun b u e n _ => by rw [upd_ne (fun z => n (by rw [z]; exact hp))]; exact e, fun b e => by
    by_cases z : b = p
    · subst z; exact ⟨o, upd_same, ho⟩
    · obtain ⟨u, e, t⟩ := e
      exact ⟨u, by rw [upd_ne z]; exact e, t⟩⟩
theorem RM.lst {j : Nat} {xs : List PV} {v : V} (h : RM T av r H m) (rv : RV T av r H (.ref j) v) (hx : m[j]? = some (.lst xs)) : ∃ p vs, v = .ref p ∧ r[j]? = some p ∧ H p = some (.lst vs) ∧ RVs T av r H xs vs := by
  unfold RV at rv
  obtain ⟨p, h1, rfl⟩ := rv
  obtain ⟨vs, h2, h3⟩ := h.ob j _ p hx h1
  exact ⟨p, vs, rfl, h1, h2, h3⟩
theorem RM.setL {j : Nat} {p : Addr} {ys : List PV} {ws : List V} (h : RM T av r H m) (hj : r[j]? = some p) (hs : Solid (H p)) (hv : RVs T av r H ys ws) : RM T av r (upd H p (.lst ws)) (m.set j (.lst ys)) :=
  h.write hj hs ⟨ws, upd_same, hv.out (out_mem (List.mem_of_getElem? hj))⟩
noncomputable def MtK (X : Cx) (T : Tx) (Ty id : String) (f : PV → List PV → Mem → Res PV) : Prop :=
  ∃ rd : V → List V → Hp → VK → Prop, MtR X id rd ∧ ∀ {av : Av} {r : List Addr} {H : Hp} {m : Mem} {x : PV} {xs : List PV} {v : V} {vs : List V} {Q : VK}, RM T av r H m → RV T av r H x v → RVs T av r H xs vs → okR T av r H (fun _ _ _ => False) (KE T av r H Q) (f x xs m).calm → rd v vs H Q
noncomputable def isLst (x : PV) (m : Mem) : Bool := (lstOf x m).isSome
noncomputable def mMt (f : PV → List PV → Mem → Res PV) (ty : PV → Mem → Bool) (ma : ME) (mr : MA) : ME := fun e m => (ma e m).bind fun x m1 => if ty x m1 then (mr e m1).bind fun xs m2 => (f x xs m2).calm else .bad
theorem okR_W {W0 W1 : Value → Option Addr → Hp → Prop} {s : Type} {K : s → Mem → Prop} {x : Res s} (h : okR T av r H W0 K x.calm) : okR T av r H W1 K x.calm := by
  cases x with
  | ok v m => exact h
  | exc c ws m => exact h.elim
  | bad => exact h.elim
section
variable {Ty id : String} {name : Str} {es : List Expr} {mr : MA} {apos : Pos}
theorem ty_list {x : PV} {v : V} (rm : RM T av r H m) (rv : RV T av r H x v) (h : isLst x m = true) : tyV X.K "list" v H := by
  unfold isLst at h
  obtain ⟨xs, hx⟩ := Option.isSome_iff_exists.mp h
  obtain ⟨a, vs, rfl, ha, hv⟩ := lstOf_ok rm rv hx
  exact .inl ⟨rfl, vs, .inl ha⟩
theorem se_bm {f : PV → List PV → Mem → Res PV} {ty : PV → Mem → Bool} (pa : PlainAttrs Ty) (slot : Slot Ty name id) (hty : typeOf (.builtin id) = pure (.type "method_descriptor")) (hm : MtK X T Ty id f)
    (hT : ∀ {av : Av} {r : List Addr} {H : Hp} {m : Mem} {x : PV} {v : V}, RM T av r H m → RV T av r H x v → ty x m = true → tyV X.K Ty v H) (ho : SE X T W a ma) (ha : SA X T W (b :: es) mr)
    (hbase : attributeBase a name X.env (eval a X.env) = eval a X.env := by rfl)
    (hfew : ((backTo pos (starEach (b :: es) X.env)).all (fun x => !x.1) && (backToKw pos (keywordEach [] X.env)).all (fun x => x.1.isSome)
      && decide ((b :: es).length + ([] : List Keyword).length + (if ([] : List Keyword).isEmpty then 0 else 1) < 30)) = true := by rfl)
    (hline : (apos.endLine == pos.line) = true := by rfl) (hs : starEach (b :: es) X.env = (false, eval b X.env) :: starEach es X.env := by rfl) (hplain : (backTo pos (starEach es X.env)).any (·.1) = false := by rfl) :
    SE X T W (.Call (.Attribute a name apos) (b :: es) [] pos) (mMt f ty ma mr) := by
  obtain ⟨rd, h1, h2⟩ := hm
  exact ⟨PE.imp (pe_bm pa slot hty h1 ho.pe ha.pa hbase hfew hline hs hplain) fun σ H Q ⟨av, r, e, m, re, rm, h⟩ =>
    ⟨av, r, e, m, re, rm, okR_imp (okR_bind h) fun x m1 h r1 H1 v g1 rm1 rv => by
      split at h
      · rename_i ht
        refine ⟨hT rm1 rv ht, av, r1, e, m1, re.grow g1, rm1, okR_grow g1 (fun xs m2 h r2 H2 vs g2 rm2 rvs => ?_) (okR_bind h)⟩
        exact h2 rm2 (rv.grow g2) rvs (okR_W (okR_grow (g1.trans g2) (fun _ _ k => KE.grow (g1.trans g2) k) h))
      · exact h.elim⟩⟩
theorem se_bm0 {f : PV → List PV → Mem → Res PV} {ty : PV → Mem → Bool} (pa : PlainAttrs Ty) (slot : Slot Ty name id) (hty : typeOf (.builtin id) = pure (.type "method_descriptor")) (hm : MtK X T Ty id f)
    (hT : ∀ {av : Av} {r : List Addr} {H : Hp} {m : Mem} {x : PV} {v : V}, RM T av r H m → RV T av r H x v → ty x m = true → tyV X.K Ty v H) (ho : SE X T W a ma)
    (hbase : attributeBase a name X.env (eval a X.env) = eval a X.env := by rfl) (hline : (apos.endLine == pos.line) = true := by rfl) :
    SE X T W (.Call (.Attribute a name apos) [] [] pos) (mMt f ty ma mNil) := by
  obtain ⟨rd, h1, h2⟩ := hm
  exact ⟨PE.imp (pe_bm0 pa slot hty h1 ho.pe hbase hline) fun σ H Q ⟨av, r, e, m, re, rm, h⟩ =>
    ⟨av, r, e, m, re, rm, okR_imp (okR_bind h) fun x m1 h r1 H1 v g1 rm1 rv => by
      split at h
      · rename_i ht
        refine ⟨hT rm1 rv ht, ?_⟩
        exact h2 rm1 rv (xs := []) (by unfold RVs; rfl) (okR_W (okR_grow g1 (fun _ _ k => KE.grow g1 k) h))
      · exact h.elim⟩⟩
end
noncomputable def qAppend : PV → List PV → Mem → Res PV := fun x xs m => match x, xs with
  | .ref j, [y] => match m[j]? with
    | some (.lst ys) => if szOk ys.length then .ok .non (m.set j (.lst (ys ++ [y]))) else .bad
    | _ => .bad
  | _, _ => .bad
theorem qt_append : MtK X T "list" "list.append" qAppend := by
  refine ⟨_, mt_append, fun {av r H m x xs v vs Q} rm rv rvs h => ?_⟩
  unfold qAppend at h
  split at h
  · rename_i j y
    split at h
    · rename_i ys hy
      split at h
      · rename_i hz
        obtain ⟨p, ws, rfl, hj, hl, hv⟩ := rm.lst rv hy
        obtain ⟨w, rfl, hw⟩ := rvs1 rvs
        have hp : p ∈ r := List.mem_of_getElem? hj
        exact ⟨p, ws, w, rfl, rfl, hl, by rw [hv.length]; exact szOk_lt hz, h r _ _ (grow_write hp) (rm.setL hj (by first | (rw [hl]; trivial) | (rw [hA]; trivial) | (rw [d]; trivial)) (hv.append (by unfold RVs; exact ⟨w, [], rfl, hw, by unfold RVs; rfl⟩))) rv_non⟩
      · exact h.elim
    · exact h.elim
  · exact h.elim
noncomputable def rExtR : V → List V → Hp → VK → Prop := fun x vs H Q => ∃ l b xs zs, x = .ref l ∧ vs = [.ref b] ∧ H l = some (.lst xs) ∧ Rd H b (.lst zs) ∧ xs.length + zs.length ≤ sizeLine ∧ Q .non (upd H l (.lst (xs ++ zs)))
theorem mt_extR : MtR X "list.extend" rExtR := by
  intro pins s σ H x vs v us Q I rx rv h
  obtain ⟨l, b, xs, zs, rfl, rfl, hH, hB, hz, q⟩ := h
  cases rx
  obtain ⟨u, rfl, ru⟩ := rv.one
  cases ru
  obtain ⟨z, its, n, r, hl, e⟩ := I.lstM hH
  obtain ⟨z2, its2, n2, r2, hl2, e2⟩ := lstR I hB
  have hsz : its.toArray.size + its2.toArray.size ≤ sizeLine := by rw [List.size_toArray, List.size_toArray]; omega
  have hlong : ¬ (!its.toArray.isEmpty && Builtin.List.listTooLong (its.toArray.size + its2.toArray.size)) = true := by
    rw [notLongL hsz, Bool.and_false]
    exact Bool.false_ne_true
  refine call_meets F.slot_list_extend ⟨_, e, rfl⟩ F.entry_list_extend (F.args_list_extend_2 _ _)
    (AutoSeq1.list_extend_list_list_0 l its.toArray n b its2.toArray n2 hlong (by rw [List.size_toArray]; omega) (by omega)) ⟨e, e2, ?_⟩
  refine ⟨.non, _, I.lset (its' := its ++ its2) hH e (by simp) (r.append r2) ?_, rfl, q⟩
  rw [List.length_append]
  omega
noncomputable def qExtend : PV → List PV → Mem → Res PV := fun x xs m => match x, xs with
  | .ref j, [y] => match m[j]?, lstOf y m with
    | some (.lst ys), some zs => if szOk (ys.length + zs.length) then .ok .non (m.set j (.lst (ys ++ zs))) else .bad
    | _, _ => .bad
  | _, _ => .bad
theorem qt_extend : MtK X T "list" "list.extend" qExtend := by
  refine ⟨_, mt_extR, fun {av r H m x xs v vs Q} rm rv rvs h => ?_⟩
  unfold qExtend at h
  split at h
  · rename_i j y
    split at h
    · rename_i ys zs hy hz
      split at h
      · rename_i hs
        obtain ⟨p, ws, rfl, hj, hl, hv⟩ := rm.lst rv hy
        obtain ⟨w, rfl, hw⟩ := rvs1 rvs
        obtain ⟨b, us, rfl, hb, hu⟩ := lstOf_ok rm hw hz
        have hp : p ∈ r := List.mem_of_getElem? hj
        exact ⟨p, b, ws, us, rfl, rfl, hl, hb, by rw [hv.length, hu.length]; exact szOk_le hs, h r _ _ (grow_write hp) (rm.setL hj (by first | (rw [hl]; trivial) | (rw [hA]; trivial) | (rw [d]; trivial)) (hv.append hu)) rv_non⟩
      · exact h.elim
    · exact h.elim
  · exact h.elim
theorem RVs.dropLast {xs : List PV} {vs : List V} (h : RVs T av r H xs vs) : RVs T av r H xs.dropLast vs.dropLast := by
  rw [List.dropLast_eq_take, List.dropLast_eq_take, h.length]
  exact h.take _
noncomputable def qPop : PV → List PV → Mem → Res PV := fun x xs m => match x, xs with
  | .ref j, [] => match m[j]? with
    | some (.lst ys) => match ys[ys.length - 1]? with
      | some y => .ok y (m.set j (.lst ys.dropLast))
      | none => .bad
    | _ => .bad
  | _, _ => .bad
theorem qt_pop : MtK X T "list" "list.pop" qPop := by
  refine ⟨_, mt_pop, fun {av r H m x xs v vs Q} rm rv rvs h => ?_⟩
  unfold qPop at h
  split at h
  · rename_i j
    split at h
    · rename_i ys hy
      split at h
      · rename_i y hyl
        obtain ⟨p, ws, rfl, hj, hl, hv⟩ := rm.lst rv hy
        unfold RVs at rvs
        subst rvs
        obtain ⟨w, hw, rw'⟩ := hv.get hyl
        have hp : p ∈ r := List.mem_of_getElem? hj
        exact ⟨p, ws, w, rfl, rfl, hl, by rw [hv.length]; exact hw, h r _ _ (grow_write hp) (rm.setL hj (by first | (rw [hl]; trivial) | (rw [hA]; trivial) | (rw [d]; trivial)) hv.dropLast) (rw'.out (out_mem hp))⟩
      · exact h.elim
    · exact h.elim
  · exact h.elim
noncomputable def wrL (x o i : PV) (m : Mem) : Option Mem := match o, i with
  | .ref j, .int k => match m[j]? with
    | some (.lst ys) => match ixN ys.length k with
      | some n => some (m.set j (.lst (ys.set n x)))
      | none => none
    | _ => none
  | _, _ => none
theorem wrL_some {x o i : PV} {m m' : Mem} (h : wrL x o i m = some m') : ∃ j k ys n, o = .ref j ∧ i = .int k ∧ m[j]? = some (.lst ys) ∧ ixN ys.length k = some n ∧ m' = m.set j (.lst (ys.set n x)) := by
  unfold wrL at h
  split at h
  · rename_i j k
    split at h
    · rename_i ys hy
      split at h
      · rename_i n hn
        exact ⟨j, k, ys, n, rfl, rfl, hy, hn, (Option.some.inj h).symm⟩
      · cases h
    · cases h
  · cases h
noncomputable def gSubL (mo mi : ME) : MG := fun x e m => (mo e m).calm.bind fun o m1 => (mi e m1).calm.bind fun i m2 => match wrL x o i m2 with
  | some m3 => .ok e m3
  | none => .bad
theorem RVs.set {x : PV} {v : V} (hx : RV T av r H x v) : ∀ {xs : List PV} {vs : List V} (k : Nat), RVs T av r H xs vs → RVs T av r H (xs.set k x) (vs.set k v)
  | [], _, _, h => by unfold RVs at h; subst h; simp; unfold RVs; rfl
  | y :: xs, _, 0, h => by
    unfold RVs at h
    obtain ⟨w, ws, rfl, _, h2⟩ := h
    simp only [List.set_cons_zero]
    unfold RVs
    exact ⟨v, _, rfl, hx, h2⟩
  | y :: xs, _, k + 1, h => by
    unfold RVs at h
    obtain ⟨w, ws, rfl, h1, h2⟩ := h
    simp only [List.set_cons_succ]
    unfold RVs
    exact ⟨w, _, rfl, h1, RVs.set hx k h2⟩
theorem sg_subL {o i : Expr} {mo mi : ME} (ho : SE X T W o mo) (hi : SE X T W i mi) (he : ∀ (v : Value), assign (o.Subscript i pos) X.env v = (do
    let ov ← holding [v] (eval o X.env)
    let iv ← holding [v, ov] (eval i X.env)
    standAt pos
    holding [v, ov, iv] (setItem ov iv v)
    release [v, ov, iv] []) := by intro _; rfl) : SG X T [] (.Subscript o i pos) (gSubL mo mi) :=
  ⟨PG.imp (pg_sub ho.pe hi.pe set_list he) fun v σ H Q ⟨av, r, e, m, x, re, rm, rv, h⟩ =>
    ⟨av, r, e, m, re, rm, okR_imp (okR_calm h) fun ov m1 h r1 H1 w1 g1 rm1 rv1 =>
      ⟨av, r1, e, m1, re.grow g1, rm1, okR_imp (okR_calm h) fun iv m2 h r2 H2 w2 g2 rm2 rv2 => by
        split at h
        · rename_i m3 hw
          obtain ⟨j, k, ys, n, rfl, rfl, hy, hn, rfl⟩ := wrL_some hw
          obtain ⟨p, ws, rfl, hj, hl, hv⟩ := rm2.lst (rv1.grow g2) hy
          have hp : p ∈ r2 := List.mem_of_getElem? hj
          have g12 := g1.trans g2
          exact ⟨p, ws, k, n, rfl, rv2.int', hl, by rw [hv.length]; exact hn, h r2 _ σ (g12.trans (grow_write hp)) (rm2.setL hj (by first | (rw [hl]; trivial) | (rw [hA]; trivial) | (rw [d]; trivial)) (RVs.set (rv.grow g12) n hv)) (re.grow (g12.trans (grow_write hp))) .refl⟩
        · exact h.elim⟩⟩⟩

noncomputable abbrev WN (E : XK) : WX := fun c d _ H => E c d H
noncomputable def spM (T : Tx) (n : Nat) (f : MF) : Sp := fun vs H Q E => vs.length = n ∧ ∃ av r m xs, RVs T av r H xs vs ∧ RM T av r H m ∧ okR T av r H (fun c d H' => E c d H') (KE T av r H Q) (f xs m)
noncomputable def mFn (n : Nat) (body : MS) : MF := fun args m => match body (args.map some ++ List.replicate (n - args.length) none) m with
  | .nx _ m' => .ok .non m'
  | .rt v m' => .ok v m'
  | .exc c ws _ m' => .exc c ws m'
  | _ => .bad
theorem re_start {N : List Str} : ∀ {xs : List PV} {vs : List V}, RVs T av r H xs vs → RE T av r H (xs.map some ++ List.replicate (N.length - xs.length) none) (vs.map some ++ List.replicate (N.length - vs.length) none) := by
  intro xs vs h
  have hl := h.length
  rw [hl]
  generalize N.length - xs.length = k
  clear hl
  induction xs generalizing vs with
  | nil =>
    unfold RVs at h
    subst h
    induction k with
    | zero => exact .nil
    | succ k ih => exact .cons (fun v hv => by cases hv) ih
  | cons x xs ih =>
    unfold RVs at h
    obtain ⟨v, ws, rfl, h1, h2⟩ := h
    exact .cons (fun v' hv => by cases hv; exact ⟨v, rfl, h1⟩) (ih h2)
section
variable {P : Program} {w : World} {K : PySem.W.Frag} {mg : Str → Option Value} {base : Heap}
theorem fn_mk {x qual : Str} {fd : FuncData} {f : Addr} {N ps : List Str} {k : Nat} {body : MS} (F : Fun K x qual st f fd) (S : FnScope N ps (defScope st))
    (hb : ∀ (cdv : Value) (A : Around) (outer : List PySem.Env) (s : Shared) (H : Hp) (E : XK), Room k (A.deeper (envOfC qual (defScope st) s.heap.objs.size f cdv)) →
      SB (cxOf (L2.CX P w) P w K mg base N qual (defScope st) f cdv A outer s H E) T (WN E) (defBody st) body) : FnOk P w K mg base (L2.CX P w) (k + 1) f fd ps (spM T ps.length (mFn N.length body)) := by
  refine F.okX S (fun vs H Q E h => h.1) fun cdv A outer s H vs Q E hr h => ?_
  refine ⟨_, (hb cdv A outer s H E hr).ps, ?_⟩
  obtain ⟨_, av, r, m, xs, rv, rm, h⟩ := h
  refine ⟨av, r, _, m, re_start rv, rm, ?_⟩
  unfold mFn at h
  split at h
  · rename_i e' m' hbd
    rw [hbd]
    exact fun r1 H1 σ1 g rm1 re1 => h r1 H1 .non g rm1 rv_non
  · rename_i v m' hbd
    rw [hbd]
    exact fun r1 H1 w g rm1 rv1 => h r1 H1 w g rm1 rv1
  · rename_i c ws e' m' hbd
    rw [hbd]
    exact fun r1 H1 σ1 cls d g rm1 re1 rx => h r1 H1 cls d g rm1 rx
  · exact h.elim
end
end M

namespace M
open PySem PySem.Spec PyProof.Rows L2
variable {X : Cx} {T : Tx} {W : WX} {a b c : Expr} {ma mb mc : ME} {mt mu : MT} {ms mv : MS} {pos : Pos} {st : Stmt} {rest sts : List Stmt}
variable {av av' : Av} {r r' r2 : List Addr} {H H' H2 : Hp} {m m' : Mem} {tg iter : Expr}
variable {x : Str} {p apos : Pos} {es : List Expr} {mr : MA} {f : Addr} {fd : FuncData} {ps : List Str} {k n : Nat} {mf : MF} {E : XK}

mutual
noncomputable def noRef : PV → Bool
  | .tup xs => noRefs xs
  | .lst xs => noRefs xs
  | .ins _ ws => noRefs ws
  | .dtt _ ws => noRefs ws
  | .dct _ ws => noRefs ws
  | .ref _ => false
  | .exn _ _ => false
  | .kst xs => noRefs xs
  | .ftup xs => noRefs xs
  | .clo _ xs => noRefs xs
  | _ => true
noncomputable def noRefs : List PV → Bool
  | [] => true
  | x :: xs => noRef x && noRefs xs
end
noncomputable abbrev Kept (H H' : Hp) : Prop := ∀ b o, H b = some o → nTbl o → H' b = some o
theorem Grow.kept (g : Grow [] H r' H') : Kept H H' := fun b o e t => g.keep b o e (by simp) (nTbl_ne t)
mutual
theorem RV.move (ho : ∀ b, Out av r b → Hard H b → Out av' r' b) (hk : Kept H H') : ∀ (x : PV) {v : V}, noRef x = true → RV T av r H x v → RV T av' r' H' x v
  | .non, _, _, h => by unfold RV at *; exact h
  | .bl _, _, _, h => by unfold RV at *; exact h
  | .int _, _, _, h => by unfold RV at *; exact h
  | .str _, _, _, h => by unfold RV at *; exact h
  | .tup xs, _, n, h => by
    unfold noRef at n
    unfold RV at *
    obtain ⟨a, vs, e, h1, h2⟩ := h
    refine ⟨a, vs, e, ?_, RVs.move ho hk xs n h2⟩
    rcases h1 with ⟨o, d⟩ | q | ⟨kt, o, ob, d⟩
    · exact .inl ⟨ho a o ⟨_, d, trivial⟩, hk a _ d trivial⟩
    · exact .inr (.inl q)
    · exact .inr (.inr ⟨kt, ho _ o ⟨_, d, trivial⟩, ob, hk _ _ d trivial⟩)
  | .kst xs, _, n, h => by
    unfold noRef at n
    unfold RV at *
    obtain ⟨a, vs, e, k, h2⟩ := h
    exact ⟨a, vs, e, k, RVs.move ho hk xs n h2⟩
  | .lst xs, _, n, h => by
    unfold noRef at n
    unfold RV at *
    obtain ⟨a, vs, e, o, d, h2⟩ := h
    refine ⟨a, vs, e, ho a o (rd_some d), ?_, RVs.move ho hk xs n h2⟩
    rcases d with d | ⟨o', d⟩
    · exact .inl (hk a _ d trivial)
    · exact .inr ⟨o', hk a _ d trivial⟩
  | .ins c ws, _, n, h => by
    unfold noRef at n
    unfold RV at *
    obtain ⟨a, dx, fs, e, o, d, nm, h2⟩ := h
    exact ⟨a, dx, fs, e, ho a o ⟨_, d, trivial⟩, hk a _ d trivial, nm, RVs.move ho hk ws n h2⟩
  | .dtt ks ws, _, n, h => by
    unfold noRef at n
    unfold RV at *
    obtain ⟨a, kvs, e, o, d, nm, h2⟩ := h
    refine ⟨a, kvs, e, ho a o (rd_some d), ?_, nm, RVs.move ho hk ws n h2⟩
    rcases d with d | ⟨o', d⟩
    · exact .inl (hk a _ d trivial)
    · exact .inr ⟨o', hk a _ d trivial⟩
  | .exn c ws, _, n, h => by unfold noRef at n; cases n
  | .dct ks ws, _, n, h => by
    unfold noRef at n
    unfold RV at *
    obtain ⟨a, vs, e, o, d, h2⟩ := h
    refine ⟨a, vs, e, ho a o (dk_some d), ?_, RVs.move ho hk ws n h2⟩
    rcases d with ⟨kvs, d | ⟨o', d⟩, q⟩ | ⟨kvs, d | ⟨o', d⟩, q⟩
    · exact .inl ⟨kvs, .inl (hk a _ d trivial), q⟩
    · exact .inl ⟨kvs, .inr ⟨o', hk a _ d trivial⟩, q⟩
    · exact .inr ⟨kvs, .inl (hk a _ d trivial), q⟩
    · exact .inr ⟨kvs, .inr ⟨o', hk a _ d trivial⟩, q⟩
  | .glo _, _, _, h => by unfold RV at *; exact h
  | .opq, _, _, _ => by unfold RV; trivial
  | .ftup xs, _, n, h => by
    unfold noRef at n
    unfold RV at *
    obtain ⟨a, vs, ob, e, kt, dn, o, d, h2⟩ := h
    exact ⟨a, vs, ob, e, kt, dn, ho _ o ⟨_, d, trivial⟩, hk _ _ d trivial, RVs.move ho hk xs n h2⟩
  | .clo0 l, _, _, h => by
    unfold RV at *
    obtain ⟨f, c, F, φ, ψ, cl, e, z, o1, d1, o2, d2⟩ := h
    exact ⟨f, c, F, φ, ψ, cl, e, z, ho _ o1 ⟨_, d1, trivial⟩, hk _ _ d1 trivial, ho _ o2 ⟨_, d2, trivial⟩, hk _ _ d2 trivial⟩
  | .clo l xs, _, n, h => by
    unfold noRef at n
    unfold RV at *
    obtain ⟨f, c, F, φ, ψ, cl, vs, e, z, o1, d1, o2, d2, ct, h2⟩ := h
    exact ⟨f, c, F, φ, ψ, cl, vs, e, z, ho _ o1 ⟨_, d1, trivial⟩, hk _ _ d1 trivial, ho _ o2 ⟨_, d2, trivial⟩, hk _ _ d2 trivial, ct.imp (fun a ob o d => ⟨ho _ o ⟨_, d, trivial⟩, hk _ _ d trivial⟩), RVs.move ho hk xs n h2⟩
  | .lam l, _, _, h => by
    unfold RV at *
    obtain ⟨f, c, F, φ, ψ, e, z, o1, d1, o2, d2⟩ := h
    exact ⟨f, c, F, φ, ψ, e, z, ho f o1 ⟨_, d1, trivial⟩, hk f _ d1 trivial, ho c o2 ⟨_, d2, trivial⟩, hk c _ d2 trivial⟩
  | .ref i, _, n, h => by unfold noRef at n; cases n
theorem RVs.move (ho : ∀ b, Out av r b → Hard H b → Out av' r' b) (hk : Kept H H') : ∀ (xs : List PV) {vs : List V}, noRefs xs = true → RVs T av r H xs vs → RVs T av' r' H' xs vs
  | [], _, _, h => by unfold RVs at *; exact h
  | x :: xs, _, n, h => by
    unfold noRefs at n
    rw [Bool.and_eq_true] at n
    unfold RVs at *
    obtain ⟨v, ws, e, h1, h2⟩ := h
    exact ⟨v, ws, e, RV.move ho hk x n.1 h1, RVs.move ho hk xs n.2 h2⟩
end
mutual
theorem RV.stay (hk : Kept H H') : ∀ (x : PV) {v : V}, RV T av r H x v → RV T av r H' x v
  | .non, _, h => by unfold RV at *; exact h
  | .bl _, _, h => by unfold RV at *; exact h
  | .int _, _, h => by unfold RV at *; exact h
  | .str _, _, h => by unfold RV at *; exact h
  | .tup xs, _, h => by
    unfold RV at *
    obtain ⟨a, vs, e, h1, h2⟩ := h
    refine ⟨a, vs, e, ?_, RVs.stay hk xs h2⟩
    rcases h1 with ⟨o, d⟩ | q | ⟨kt, o, ob, d⟩
    · exact .inl ⟨o, hk a _ d trivial⟩
    · exact .inr (.inl q)
    · exact .inr (.inr ⟨kt, o, ob, hk _ _ d trivial⟩)
  | .kst xs, _, h => by
    unfold RV at *
    obtain ⟨a, vs, e, k, h2⟩ := h
    exact ⟨a, vs, e, k, RVs.stay hk xs h2⟩
  | .lst xs, _, h => by
    unfold RV at *
    obtain ⟨a, vs, e, o, d, h2⟩ := h
    refine ⟨a, vs, e, o, ?_, RVs.stay hk xs h2⟩
    rcases d with d | ⟨o', d⟩
    · exact .inl (hk a _ d trivial)
    · exact .inr ⟨o', hk a _ d trivial⟩
  | .ins c ws, _, h => by
    unfold RV at *
    obtain ⟨a, dx, fs, e, o, d, nm, h2⟩ := h
    exact ⟨a, dx, fs, e, o, hk a _ d trivial, nm, RVs.stay hk ws h2⟩
  | .dtt ks ws, _, h => by
    unfold RV at *
    obtain ⟨a, kvs, e, o, d, nm, h2⟩ := h
    refine ⟨a, kvs, e, o, ?_, nm, RVs.stay hk ws h2⟩
    rcases d with d | ⟨o', d⟩
    · exact .inl (hk a _ d trivial)
    · exact .inr ⟨o', hk a _ d trivial⟩
  | .exn c ws, _, h => by
    unfold RV at *
    obtain ⟨a, dx, fs, ex, e, o, d, nm, h2⟩ := h
    exact ⟨a, dx, fs, ex, e, o, hk dx _ d trivial, nm, RVs.stay hk ws h2⟩
  | .dct ks ws, _, h => by
    unfold RV at *
    obtain ⟨a, vs, e, o, d, h2⟩ := h
    refine ⟨a, vs, e, o, ?_, RVs.stay hk ws h2⟩
    rcases d with ⟨kvs, d | ⟨o', d⟩, q⟩ | ⟨kvs, d | ⟨o', d⟩, q⟩
    · exact .inl ⟨kvs, .inl (hk a _ d trivial), q⟩
    · exact .inl ⟨kvs, .inr ⟨o', hk a _ d trivial⟩, q⟩
    · exact .inr ⟨kvs, .inl (hk a _ d trivial), q⟩
    · exact .inr ⟨kvs, .inr ⟨o', hk a _ d trivial⟩, q⟩
  | .glo _, _, h => by unfold RV at *; exact h
  | .opq, _, _ => by unfold RV; trivial
  | .ftup xs, _, h => by
    unfold RV at *
    obtain ⟨a, vs, ob, e, kt, dn, o, d, h2⟩ := h
    exact ⟨a, vs, ob, e, kt, dn, o, hk _ _ d trivial, RVs.stay hk xs h2⟩
  | .clo0 l, _, h => by
    unfold RV at *
    obtain ⟨f, c, F, φ, ψ, cl, e, z, o1, d1, o2, d2⟩ := h
    exact ⟨f, c, F, φ, ψ, cl, e, z, o1, hk _ _ d1 trivial, o2, hk _ _ d2 trivial⟩
  | .clo l xs, _, h => by
    unfold RV at *
    obtain ⟨f, c, F, φ, ψ, cl, vs, e, z, o1, d1, o2, d2, ct, h2⟩ := h
    exact ⟨f, c, F, φ, ψ, cl, vs, e, z, o1, hk _ _ d1 trivial, o2, hk _ _ d2 trivial, ct.imp (fun a ob o d => ⟨o, hk _ _ d trivial⟩), RVs.stay hk xs h2⟩
  | .lam l, _, h => by
    unfold RV at *
    obtain ⟨f, c, F, φ, ψ, e, z, o1, d1, o2, d2⟩ := h
    exact ⟨f, c, F, φ, ψ, e, z, o1, hk f _ d1 trivial, o2, hk c _ d2 trivial⟩
  | .ref i, _, h => by unfold RV at *; exact h
theorem RVs.stay (hk : Kept H H') : ∀ (xs : List PV) {vs : List V}, RVs T av r H xs vs → RVs T av r H' xs vs
  | [], _, h => by unfold RVs at *; exact h
  | x :: xs, _, h => by
    unfold RVs at *
    obtain ⟨v, ws, e, h1, h2⟩ := h
    exact ⟨v, ws, e, RV.stay hk x h1, RVs.stay hk xs h2⟩
end
theorem RM.stay (hk : Kept H H') (ht : ∀ b, Hard H b → Hard H' b) (htb : LamX.Tabs T.tb H') (h : RM T av r H m) : RM T av r H' m :=
  ⟨h.len, h.nd, fun i x a h1 h2 => by
    have q := h.ob i x a h1 h2
    cases x with
    | lst xs => obtain ⟨vs, h1, h2⟩ := q; exact ⟨vs, hk a _ h1 trivial, h2.stay hk⟩
    | ins c ws => obtain ⟨dx, fs, h1, h2, h3, h4⟩ := q; exact ⟨dx, fs, hk a _ h1 trivial, h2, h3.stay hk, h4⟩
    | dtt ks ws => obtain ⟨kvs, h1, h2, h3⟩ := q; exact ⟨kvs, hk a _ h1 trivial, h2, h3.stay hk⟩
    | dnn ks ws => obtain ⟨xs, vs, h1, h2, h3, h4, h5⟩ := q; exact ⟨xs, vs, hk a _ h1 trivial, h2, h3.stay hk, h4.stay hk, h5⟩
    | dct ks ws =>
      obtain ⟨vs, h1, h2⟩ := q
      refine ⟨vs, ?_, h2.stay hk⟩
      rcases h1 with ⟨kvs, d, q⟩ | ⟨kvs, d, q⟩
      · exact .inl ⟨kvs, hk a _ d trivial, q⟩
      · exact .inr ⟨kvs, hk a _ d trivial, q⟩, htb, fun a ha => ht a (h.th a ha), fun a ha vs e => by
    obtain ⟨u, e2, t⟩ := h.th a (.inl ha)
    have q := hk a _ e2 t
    rw [e] at q
    cases q
    exact h.nt a ha _ e2⟩
theorem Grow.pure (g : Grow [] H r' H') : Grow r H r H' := ⟨⟨[], by simp, by simp⟩, fun b o e _ t => g.keep b o e (by simp) t, g.there⟩
noncomputable abbrev AvR (av : Av) (r : List Addr) : Av := fun a => av a ∨ a ∈ r
theorem RM.empty (h : RM T av r H m) : RM T (AvR av r) [] H [] := ⟨rfl, by simp, fun i o a h1 => by simp at h1, h.tb, fun a ha => h.th a (ha.elim id fun z => by cases z), fun a ha vs e => ha.elim (fun z => h.nt a z vs e) fun z => h.rntC z vs e⟩
theorem out_in {b : Addr} (h : Out av r b) : Out (AvR av r) [] b := ⟨fun z => z.elim h.1 h.2, by simp⟩
theorem out_back {b : Addr} (h : Out (AvR av r) r' b) : Out av r b := ⟨fun z => h.1 (.inl z), fun z => h.1 (.inr z)⟩

noncomputable def mCall (n : Nat) (mf : MF) (mr : MA) : ME := fun e m => (mr e m).bind fun xs m1 => if xs.length == n then mf xs m1 else .bad
noncomputable def mapO (f : PV → Option PV) : List PV → Option (List PV)
  | [] => some []
  | x :: xs => match f x, mapO f xs with
    | some y, some ys => some (y :: ys)
    | _, _ => none
noncomputable def res : Nat → Mem → PV → Option PV
  | 0, _, x => if noRef x then some x else none
  | n + 1, m, x => if noRef x then some x else match x with
    | .ref i => match m[i]? with
      | some (.lst xs) => (mapO (res n m) xs).map PV.lst
      | some (.dct ks ws) => (mapO (res n m) ws).map (PV.dct ks)
      | some (.dtt ks ws) => (mapO (res n m) ws).map (PV.dtt ks)
      | _ => none
    | .tup xs => (mapO (res n m) xs).map PV.tup
    | .lst xs => (mapO (res n m) xs).map PV.lst
    | .dct ks ws => (mapO (res n m) ws).map (PV.dct ks)
    | .dtt ks ws => (mapO (res n m) ws).map (PV.dtt ks)
    | _ => none
theorem Grow.outOf {a : Addr} (g : Grow [] H r' H') (rm : RM T av r H m) (ha : a ∈ r') : Out av r a := by
  obtain ⟨more, e, f⟩ := g.ext
  have q : a ∈ more := by rw [e] at ha; simpa using ha
  exact ⟨fun z => f a q (rm.th a (.inl z)), fun z => f a q (rm.th a (.inr z))⟩
theorem mapO_ok {f : PV → Option PV} (hf : ∀ (x y : PV) (v : V), f x = some y → RV T (AvR av r) r' H' x v → RV T av r H' y v) : ∀ (xs ys : List PV) (vs : List V), mapO f xs = some ys → RVs T (AvR av r) r' H' xs vs → RVs T av r H' ys vs
  | [], ys, vs, h, k => by
    unfold mapO at h
    cases h
    unfold RVs at *
    exact k
  | x :: xs, ys, vs, h, k => by
    unfold mapO at h
    split at h
    · rename_i y zs h1 h2
      cases h
      unfold RVs at k
      obtain ⟨v, ws, rfl, k1, k2⟩ := k
      have q := mapO_ok hf xs zs ws h2 k2
      unfold RVs
      exact ⟨v, ws, rfl, hf x y v h1 k1, q⟩
    · cases h
theorem mapO_some {f : PV → Option PV} {xs : List PV} {c : List PV → PV} {y : PV} (h : (mapO f xs).map c = some y) : ∃ ys, mapO f xs = some ys ∧ y = c ys := by
  cases q : mapO f xs with
  | none => rw [q] at h; cases h
  | some ys => rw [q] at h; cases h; exact ⟨ys, rfl, rfl⟩
theorem res_ok (ob : ∀ a ∈ r', Out av r a) (rm1 : RM T (AvR av r) r' H' m') : ∀ (n : Nat) (x y : PV) (v : V), res n m' x = some y → RV T (AvR av r) r' H' x v → RV T av r H' y v := by
  intro n
  induction n with
  | zero =>
    intro x y v h k
    unfold res at h
    split at h
    · rename_i hn
      cases h
      exact RV.move (fun b o _ => out_back o) (fun b o e _ => e) x hn k
    · cases h
  | succ n ih =>
    intro x y v h k
    unfold res at h
    split at h
    · rename_i hn
      cases h
      exact RV.move (fun b o _ => out_back o) (fun b o e _ => e) x hn k
    · split at h
      · rename_i i _
        unfold RV at k
        obtain ⟨a, ha, rfl⟩ := k
        have am : a ∈ r' := List.mem_of_getElem? ha
        split at h
        · rename_i xs hx
          obtain ⟨ys, hy, rfl⟩ := mapO_some h
          obtain ⟨vs, d, k2⟩ := rm1.ob i _ a hx ha
          unfold RV
          exact ⟨a, vs, rfl, ob a am, .inl d, mapO_ok ih xs ys vs hy k2⟩
        · rename_i ks ws hx
          obtain ⟨ys, hy, rfl⟩ := mapO_some h
          obtain ⟨vs, d, k2⟩ := rm1.ob i _ a hx ha
          unfold RV
          exact ⟨a, vs, rfl, ob a am, d.dk, mapO_ok ih ws ys vs hy k2⟩
        · rename_i ks ws hx
          obtain ⟨ys, hy, rfl⟩ := mapO_some h
          obtain ⟨kvs, d, nm, k2⟩ := rm1.ob i _ a hx ha
          unfold RV
          exact ⟨a, kvs, rfl, ob a am, .inl d, nm, mapO_ok ih ws ys _ hy k2⟩
        · cases h
      · rename_i xs _
        obtain ⟨ys, hy, rfl⟩ := mapO_some h
        unfold RV at k
        obtain ⟨a, vs, rfl, d, k2⟩ := k
        unfold RV
        exact ⟨a, vs, rfl, d.imp (fun z => ⟨out_back z.1, z.2⟩) (fun z => z.imp id fun y => ⟨y.1, out_back y.2.1, y.2.2⟩), mapO_ok ih xs ys vs hy k2⟩
      · rename_i xs _
        obtain ⟨ys, hy, rfl⟩ := mapO_some h
        unfold RV at k
        obtain ⟨a, vs, rfl, o, d, k2⟩ := k
        unfold RV
        exact ⟨a, vs, rfl, out_back o, d, mapO_ok ih xs ys vs hy k2⟩
      · rename_i ks ws _
        obtain ⟨ys, hy, rfl⟩ := mapO_some h
        unfold RV at k
        obtain ⟨a, vs, rfl, o, d, k2⟩ := k
        unfold RV
        exact ⟨a, vs, rfl, out_back o, d, mapO_ok ih ws ys vs hy k2⟩
      · rename_i ks ws _
        obtain ⟨ys, hy, rfl⟩ := mapO_some h
        unfold RV at k
        obtain ⟨a, kvs, rfl, o, d, nm, k2⟩ := k
        unfold RV
        exact ⟨a, kvs, rfl, out_back o, d, nm, mapO_ok ih ws ys _ hy k2⟩
      · cases h
noncomputable def runP (n : Nat) (mf : MF) (xs : List PV) (m : Mem) : Res PV := if xs.length == n && noRefs xs then match mf xs [] with
  | .ok v m1 => match res 6 m1 v with
    | some y => .ok y m
    | none => .bad
  | .exc c ws _ => if noRefs ws then .exc c ws m else .bad
  | .bad => .bad
  else .bad
noncomputable def mCallP (n : Nat) (mf : MF) (mr : MA) : ME := fun e m => (mr e m).bind fun xs m1 => runP n mf xs m1
theorem sp_call {vs : List V} {xs : List PV} {Q : VK} (rm : RM T av r H m) (rv : RVs T av r H xs vs) (h : okR T av r H (fun c d H' => E c d H') (KE T av r H Q) (if xs.length == n then mf xs m else .bad)) : spM T n mf vs H Q E := by
  split at h
  · rename_i hl
    exact ⟨by rw [rv.length]; exact eq_of_beq hl, av, r, m, xs, rv, rm, h⟩
  · exact h.elim
theorem RX.back {c : Nat} {ws : List PV} {cls : Value} {d : Option Addr} (g : Grow [] H r' H') (hn : noRefs ws = true) (h : RX T (AvR av r) r' H' c ws cls d) : RX T av r H' c ws cls d :=
  ⟨h.1, h.2.imp id fun ⟨dx, fs, e1, e0, e2, e3, e4⟩ => ⟨dx, fs, e1, out_back e0, e2, e3, RVs.move (fun b o _ => out_back o) (fun b o e _ => e) ws hn e4⟩⟩
theorem sp_callP {vs : List V} {xs : List PV} {Q : VK} (rm : RM T av r H m) (rv : RVs T av r H xs vs) (h : okR T av r H (fun c d H' => E c d H') (KE T av r H Q) (runP n mf xs m)) : spM T n mf vs H Q E := by
  unfold runP at h
  split at h
  · rename_i hl
    rw [Bool.and_eq_true] at hl
    refine ⟨by rw [rv.length]; exact eq_of_beq hl.1, AvR av r, [], [], xs, RVs.move (fun b o _ => out_in o) (fun b o e _ => e) xs hl.2 rv, rm.empty, ?_⟩
    split at h
    · rename_i v m2 hv
      rw [hv]
      split at h
      · rename_i y hn
        intro r1 H1 w g rm1 rv1
        exact h r H1 w g.pure (rm.stay g.kept g.there rm1.tb) (res_ok (fun a ha => g.outOf rm ha) rm1 6 v y w hn rv1)
      · exact h.elim
    · rename_i c ws m2 hv
      rw [hv]
      split at h
      · rename_i hn
        intro r1 H1 cls d g rm1 rx
        exact h r H1 cls d g.pure (rm.stay g.kept g.there rm1.tb) (rx.back g hn)
      · exact h.elim
    · exact h.elim
  · exact h.elim
theorem se_call_of {sp : MF → List PV → Mem → Res PV} (hsp : ∀ {av : Av} {r : List Addr} {H : Hp} {m : Mem} {vs : List V} {xs : List PV} {Q : VK}, RM T av r H m → RVs T av r H xs vs → okR T av r H (fun c d H' => E c d H') (KE T av r H Q) (sp mf xs m) → spM T n mf vs H Q E)
    (F : FnOk X.prog X.w X.K X.mg X.base (L2.CX X.prog X.w) k f fd ps (spM T n mf)) (hr : Room k X.A) (hg : Gl X x) (hm : X.mg x = some (.ref f)) (hk : PySem.W.keepIn X.K (.ref f) = true) (hb : Binds X.K fd ps []) (tk : Takes X (WN E)) (ha : SA X T (WN E) (a :: es) mr)
    (hdb : (x == ("__debug__" : Str)) = false := by decide) (he : starEach (a :: es) X.env = (false, eval a X.env) :: starEach es X.env := by rfl) (hpl : (backTo pos (starEach es X.env)).any (·.1) = false := by rfl) :
    SE X T (WN E) (.Call (.Name x p) (a :: es) [] pos) (fun e m => (mr e m).bind fun xs m1 => sp mf xs m1) :=
  ⟨PE.imp (pe_call F hr hg hm hk hb .nil (passes_call tk (fun _ _ _ _ h => h)) ha.pa hdb he hpl) fun σ H Q ⟨av, r, e, m, re, rm, h⟩ =>
    ⟨av, r, e, m, re, rm, okR_imp (okR_bind h) fun xs m1 h r1 H1 vs g1 rm1 rv1 => by
      show spM T n mf (vs ++ []) H1 Q E
      rw [List.append_nil]
      exact hsp rm1 rv1 (okR_grow g1 (fun _ _ q => KE.grow g1 q) h)⟩⟩
theorem se_call (F : FnOk X.prog X.w X.K X.mg X.base (L2.CX X.prog X.w) k f fd ps (spM T n mf)) (hr : Room k X.A) (hg : Gl X x) (hm : X.mg x = some (.ref f)) (hk : PySem.W.keepIn X.K (.ref f) = true) (hb : Binds X.K fd ps []) (tk : Takes X (WN E)) (ha : SA X T (WN E) (a :: es) mr)
    (hdb : (x == ("__debug__" : Str)) = false := by decide) (he : starEach (a :: es) X.env = (false, eval a X.env) :: starEach es X.env := by rfl) (hpl : (backTo pos (starEach es X.env)).any (·.1) = false := by rfl) :
    SE X T (WN E) (.Call (.Name x p) (a :: es) [] pos) (mCall n mf mr) := se_call_of (sp := fun mf xs m => if xs.length == n then mf xs m else .bad) sp_call F hr hg hm hk hb tk ha hdb he hpl
theorem se_callP (F : FnOk X.prog X.w X.K X.mg X.base (L2.CX X.prog X.w) k f fd ps (spM T n mf)) (hr : Room k X.A) (hg : Gl X x) (hm : X.mg x = some (.ref f)) (hk : PySem.W.keepIn X.K (.ref f) = true) (hb : Binds X.K fd ps []) (tk : Takes X (WN E)) (ha : SA X T (WN E) (a :: es) mr)
    (hdb : (x == ("__debug__" : Str)) = false := by decide) (he : starEach (a :: es) X.env = (false, eval a X.env) :: starEach es X.env := by rfl) (hpl : (backTo pos (starEach es X.env)).any (·.1) = false := by rfl) :
    SE X T (WN E) (.Call (.Name x p) (a :: es) [] pos) (mCallP n mf mr) := se_call_of (sp := runP n) sp_callP F hr hg hm hk hb tk ha hdb he hpl

noncomputable def isIns (c : Nat) : PV → Mem → Bool
  | .ins c' _, _ => c' == c
  | .ref j, m => match m[j]? with
    | some (.ins c' _) => c' == c
    | _ => false
  | _, _ => false
theorem lookup_none {fs : List (Str × V)} {f : Str} (h : f ∉ fs.map (·.1)) : fs.lookup f = none := by
  induction fs with
  | nil => rfl
  | cons q qs ih =>
    obtain ⟨q1, q2⟩ := q
    rw [List.map_cons, List.mem_cons, not_or] at h
    rw [List.lookup_cons, beq_eq_false_iff_ne.mpr h.1]
    exact ih h.2
theorem isIns_ok {c : Nat} {y : PV} {v : V} {nm : Str} (hn : nm ∉ T.cN c) (rm : RM T av r H m) (rv : RV T av r H y v) (h : isIns c y m = true) : ∃ a dx fs, v = .ref a ∧ H a = some (.ins (T.cA c) dx fs) ∧ fs.lookup nm = none := by
  unfold isIns at h
  split at h
  · have e := eq_of_beq h
    subst e
    unfold RV at rv
    obtain ⟨a, dx, fs, rfl, _, ha, hm, _⟩ := rv
    exact ⟨a, dx, fs, rfl, ha, lookup_none (by rw [hm]; exact hn)⟩
  · split at h
    · rename_i j _ c' ws hx
      have e := eq_of_beq h
      subst e
      unfold RV at rv
      obtain ⟨a, h1, rfl⟩ := rv
      obtain ⟨dx, fs, ha, hm, _⟩ := rm.ob j _ a hx h1
      exact ⟨a, dx, fs, rfl, ha, lookup_none (by rw [hm]; exact fun z => hn (List.mem_of_mem_take z))⟩
    · cases h
  · cases h
noncomputable def mMeth (c n : Nat) (run : MF → List PV → Mem → Res PV) (mf : MF) (ma : ME) (mr : MA) : ME := fun e m => (ma e m).bind fun y m1 => if isIns c y m1 then (mr e m1).bind fun xs m2 => run mf (y :: xs) m2 else .bad
theorem se_meth_of {cl : Nat} {nm : Str} {pl : Sem Bool} {sp : MF → List PV → Mem → Res PV} (hsp : ∀ {av : Av} {r : List Addr} {H : Hp} {m : Mem} {vs : List V} {xs : List PV} {Q : VK}, RM T av r H m → RVs T av r H xs vs → okR T av r H (fun c d H' => E c d H') (KE T av r H Q) (sp mf xs m) → spM T n mf vs H Q E)
    (hn : nm ∉ T.cN cl) (hc : Cls X.K (T.cA cl)) (hM : Meth X.K (T.cA cl) nm f)
    (F : FnOk X.prog X.w X.K X.mg X.base (L2.CX X.prog X.w) k f fd ps (spM T n mf)) (hr : Room k X.A) (hb : Binds X.K fd ps []) (tk : Takes X (WN E)) (ho : SE X T (WN E) a ma) (ha : SA X T (WN E) (b :: es) mr)
    (hst : starEach (b :: es) X.env = (false, eval b X.env) :: starEach es X.env := by rfl) (hpl : (backTo pos (starEach es X.env)).any (·.1) = false := by rfl)
    (ht : eval (.Call (.Attribute a nm apos) (b :: es) [] pos) X.env = (do
      let ov ← eval a X.env
      standAt apos.atName
      let (f, first) ← holding [ov] (getMethod ov nm pl)
      callWith pos f first (backTo pos (starEach (b :: es) X.env)) (backToKw pos (keywordEach [] X.env))) := by rfl) :
    SE X T (WN E) (.Call (.Attribute a nm apos) (b :: es) [] pos) (mMeth cl n sp mf ma mr) :=
  ⟨PE.imp (pe_meth ho.pe hc hM F hr hb .nil (passes_call tk (fun _ _ _ _ h => h)) ha.pa hst hpl ht) fun σ H Q ⟨av, r, e, m, re, rm, h⟩ =>
    ⟨av, r, e, m, re, rm, okR_imp (okR_bind h) fun y m1 h r1 H1 v g1 rm1 rv1 => by
      split at h
      · rename_i hi
        obtain ⟨a, dx, fs, rfl, hA, hl⟩ := isIns_ok hn rm1 rv1 hi
        refine ⟨a, dx, fs, rfl, hA, hl, av, r1, e, m1, re.grow g1, rm1, okR_grow g1 (fun xs m2 h r2 H2 vs g2 rm2 rv2 => ?_) (okR_bind h)⟩
        show spM T n mf (_ :: (vs ++ [])) H2 Q E
        rw [List.append_nil]
        have g12 := g1.trans g2
        exact hsp rm2 (by unfold RVs; exact ⟨_, _, rfl, rv1.grow g2, rv2⟩) (okR_grow g12 (fun _ _ q => KE.grow g12 q) h)
      · exact h.elim⟩⟩
noncomputable def runMk (c nf n : Nat) (mf : MF) (xs : List PV) (m : Mem) : Res PV := if xs.length + 1 == n && noRefs xs then match mf (.ref 0 :: xs) [MO.ins c []] with
  | .ok .non m1 => match m1[0]? with
    | some (MO.ins c' ws) => if c' == c && ws.length == nf && noRefs ws then .ok (.ins c ws) m else .bad
    | _ => .bad
  | .exc c' ws _ => if noRefs ws then .exc c' ws m else .bad
  | _ => .bad
  else .bad
noncomputable def mMk (c nf n : Nat) (mf : MF) (mr : MA) : ME := fun e m => (mr e m).bind fun xs m1 => runMk c nf n mf xs m1
theorem se_make {cl nf : Nat} (hnf : (T.cN cl).length = nf) (M0 : L2.Mk X.K (T.cA cl) f) (F : FnOk X.prog X.w X.K X.mg X.base (L2.CX X.prog X.w) k f fd ps (spM T n mf)) (hr : Room (k + 1) X.A) (hg : Gl X x) (hm : X.mg x = some (.ref (T.cA cl))) (hb : Binds X.K fd ps []) (tk : Takes X (WN E)) (ha : SA X T (WN E) (a :: es) mr)
    (hdb : (x == ("__debug__" : Str)) = false := by decide) (he : starEach (a :: es) X.env = (false, eval a X.env) :: starEach es X.env := by rfl) (hpl : (backTo pos (starEach es X.env)).any (·.1) = false := by rfl) :
    SE X T (WN E) (.Call (.Name x p) (a :: es) [] pos) (mMk cl nf n mf mr) :=
  ⟨PE.imp (pe_make M0 F hr hg hm hb .nil (passes_call tk (fun _ _ _ _ h => h)) ha.pa hdb he hpl) fun σ H Q ⟨av, r, e, m, re, rm, h⟩ =>
    ⟨av, r, e, m, re, rm, okR_imp (okR_bind h) fun xs m1 h r1 H1 vs g1 rm1 rv1 ai dx hx hdx hne => by
      show spM T n mf (_ :: (vs ++ [])) _ _ E
      rw [List.append_nil]
      unfold runMk at h
      split at h
      · rename_i hl
        rw [Bool.and_eq_true] at hl
        have hx2 : upd H1 dx (.own ai) ai = none := by rw [upd_ne hne.symm]; exact hx
        have k12 : Kept H1 (upd (upd H1 dx (.own ai)) ai (.ins (T.cA cl) dx [])) := fun b o e _ => by
          rw [upd_ne (fun z => by rw [z, hx] at e; cases e), upd_ne (fun z => by rw [z, hdx] at e; cases e)]
          exact e
        have f12 : ∀ b o, H1 b = some o → upd (upd H1 dx (.own ai)) ai (.ins (T.cA cl) dx []) b = some o := fun b o e => by
          rw [upd_ne (fun z => by rw [z, hx] at e; cases e), upd_ne (fun z => by rw [z, hdx] at e; cases e)]
          exact e
        have t12 : ∀ b, Hard H1 b → Hard (upd (upd H1 dx (.own ai)) ai (.ins (T.cA cl) dx [])) b := fun b ⟨u, e, t⟩ => ⟨u, f12 b u e, t⟩
        have na : ai ∉ r1 := rm1.fresh hx
        have nav : ¬ av ai := rm1.freshA hx
        have rm2 : RM T (AvR av r1) [ai] (upd (upd H1 dx (.own ai)) ai (.ins (T.cA cl) dx [])) [MO.ins cl []] := by
          refine ⟨rfl, by simp, fun i o q h1 h2 => ?_, rm1.tb.ext fun b o e => f12 b o e, fun q hq => ?_, fun q hq vs e => ?_⟩
          · cases i with
            | zero =>
              simp at h1 h2
              subst h1 h2
              exact ⟨dx, [], upd_same, rfl, by unfold RVs; rfl, by simp⟩
            | succ i => simp at h1
          · rcases hq with hq | hq
            · exact t12 q (rm1.th q hq)
            · simp at hq
              subst hq
              exact ⟨_, upd_same, trivial⟩
          · obtain ⟨u, e2, _⟩ := rm1.th q hq
            have e3 := f12 q u e2
            rw [e] at e3
            cases e3
            exact hq.elim (fun z => rm1.nt q z _ e2) fun z => rm1.rntC z _ e2
        refine ⟨by rw [List.length_cons, rv1.length]; exact eq_of_beq hl.1, AvR av r1, [ai], [MO.ins cl []], .ref 0 :: xs, ?_, rm2, ?_⟩
        · unfold RVs
          exact ⟨_, _, rfl, by unfold RV; exact ⟨ai, rfl, rfl⟩, RVs.move (fun b o hb => ⟨fun z => z.elim o.1 o.2, fun z => by
            simp at z
            subst z
            exact soft hx hb⟩) k12 xs hl.2 rv1⟩
        · have back : ∀ {r2 : List Addr} {H3 : Hp}, Grow [ai] (upd (upd H1 dx (.own ai)) ai (.ins (T.cA cl) dx [])) r2 H3 → LamX.Tabs T.tb H3 → Grow r H r1 H3 ∧ RM T av r1 H3 m1 := fun {r2 H3} g tb3 => by
            have k13 : Kept H1 H3 := fun b o e t => g.keep b o (k12 b o e t) (fun z => by
              simp at z
              rw [z, hx] at e
              cases e) (nTbl_ne t)
            have t13 : ∀ b, Hard H1 b → Hard H3 b := fun b e => g.there b (t12 b e)
            exact ⟨g1.trans ⟨⟨[], by simp, by simp⟩, fun b o e _ t => k13 b o e (nTbl_of t), t13⟩, rm1.stay k13 t13 tb3⟩
          split at h
          · rename_i m2 hv
            rw [hv]
            intro r2 H3 w g rm3 rv3
            refine ⟨rv3.non', ?_⟩
            obtain ⟨gg, rmm⟩ := back g rm3.tb
            split at h
            · rename_i c' ws h0
              split at h
              · rename_i hh
                rw [Bool.and_eq_true, Bool.and_eq_true] at hh
                obtain ⟨⟨q1, q2⟩, q3⟩ := hh
                have e1 := eq_of_beq q1
                subst e1
                have hr0 : r2[0]? = some ai := get_grow g (by simp)
                obtain ⟨dx', fs, hA, hN, hV, _⟩ := rm3.ob 0 _ ai h0 hr0
                refine h r1 H3 (.ref ai) gg rmm ?_
                unfold RV
                refine ⟨ai, dx', fs, rfl, ⟨nav, na⟩, hA, ?_, RVs.move (fun b o _ => out_back o) (fun b o e _ => e) ws q3 hV⟩
                rw [hN, eq_of_beq q2, ← hnf, List.take_length]
              · exact h.elim
            · exact h.elim
          · rename_i c' ws m2 hv
            rw [hv]
            split at h
            · rename_i hn
              intro r2 H3 cls d g rm3 rx
              obtain ⟨gg, rmm⟩ := back g rm3.tb
              exact h r1 H3 cls d gg rmm ⟨rx.1, rx.2.imp id fun ⟨dx, fs, e1, e0, e2, e3, e4⟩ => ⟨dx, fs, e1, out_back e0, e2, e3, RVs.move (fun b o _ => out_back o) (fun b o e _ => e) ws hn e4⟩⟩
            · exact h.elim
          · exact h.elim
      · exact h.elim⟩⟩
end M

namespace M
open PySem PySem.Spec PyProof.Rows L2
variable {X : Cx} {T : Tx} {W : WX} {a b c : Expr} {ma mb mc : ME} {mt mu : MT} {ms mv : MS} {pos : Pos} {st : Stmt} {rest sts : List Stmt}
variable {av av' : Av} {r r' r2 : List Addr} {H H' H2 : Hp} {m m' : Mem} {tg iter : Expr}
variable {x : Str} {p apos : Pos} {es : List Expr} {mr : MA} {f : Addr} {fd : FuncData} {ps : List Str} {k n : Nat} {mf : MF} {E : XK}

theorem putF_end {g : Str} {y : V} : ∀ {fs : List (Str × V)}, g ∉ fs.map (·.1) → putF g y fs = fs ++ [(g, y)]
  | [], _ => rfl
  | (q, u) :: fs, h => by
    rw [List.map_cons, List.mem_cons, not_or] at h
    unfold putF
    rw [if_neg (fun z => h.1 z.symm), putF_end h.2]; rfl
theorem putF_in {g : Str} {y : V} : ∀ {fs : List (Str × V)} {i : Nat}, (fs.map (·.1)).Nodup → (fs.map (·.1))[i]? = some g → (putF g y fs).map (·.1) = fs.map (·.1) ∧ (putF g y fs).map (·.2) = (fs.map (·.2)).set i y
  | [], i, _, h => by simp at h
  | (q, u) :: fs, 0, nd, h => by
    simp at h
    subst h
    unfold putF
    rw [if_pos rfl]
    exact ⟨rfl, rfl⟩
  | (q, u) :: fs, i + 1, nd, h => by
    rw [List.map_cons, List.nodup_cons] at nd
    simp only [List.map_cons, List.getElem?_cons_succ] at h
    have ne : q ≠ g := fun z => nd.1 (z ▸ List.mem_of_getElem? h)
    unfold putF
    rw [if_neg ne]
    obtain ⟨h1, h2⟩ := putF_in (i := i) (y := y) nd.2 h
    exact ⟨by rw [List.map_cons, h1]; rfl, by rw [List.map_cons, h2]; rfl⟩
noncomputable def stF (c i : Nat) (y : PV) : PV → Mem → Option Mem
  | .ref j, m => match m[j]? with
    | some (MO.ins c' ws) => if c' == c then (if i == ws.length then some (m.set j (MO.ins c (ws ++ [y]))) else if i < ws.length then some (m.set j (MO.ins c (ws.set i y))) else none) else none
    | _ => none
  | _, _ => none
noncomputable def mSetF (c i : Nat) (mo me : ME) : MS := fun e m => sB (me e m) e fun y m1 => sB (mo e m1) e fun o m2 => match stF c i y o m2 with
  | some m3 => .nx e m3
  | none => .bad
theorem stF_ok {cl i : Nat} {g : Str} {y o : PV} {v w : V} (nd : (T.cN cl).Nodup) (hl : (T.cN cl).length ≤ 100) (hg : (T.cN cl)[i]? = some g) (rm : RM T av r H m) (rv : RV T av r H o v) (ry : RV T av r H y w) (h : stF cl i y o m = some m') :
    ∃ p dx fs, v = .ref p ∧ p ∈ r ∧ H p = some (.ins (T.cA cl) dx fs) ∧ fs.length < 1000 ∧ RM T av r (upd H p (.ins (T.cA cl) dx (putF g w fs))) m' := by
  unfold stF at h
  split at h
  · rename_i j
    split at h
    · rename_i c' ws hx
      split at h
      · rename_i hc
        have e1 := eq_of_beq hc
        subst e1
        unfold RV at rv
        obtain ⟨p, h1, rfl⟩ := rv
        obtain ⟨dx, fs, hA, hN, hV, hZ⟩ := rm.ob j _ p hx h1
        have hp : p ∈ r := List.mem_of_getElem? h1
        refine ⟨p, dx, fs, rfl, hp, hA, by omega, ?_⟩
        have hfl : fs.length = ws.length := by
          have q := hV.length
          rwa [List.length_map] at q
        have hle : ws.length ≤ (T.cN c').length := by
          have q := congrArg List.length hN
          rw [List.length_map, List.length_take] at q
          omega
        split at h
        · rename_i hi
          cases h
          have ei := eq_of_beq hi
          subst ei
          have nin : g ∉ fs.map (·.1) := by
            rw [hN]
            intro z
            obtain ⟨q, hq, e⟩ := List.getElem_of_mem z
            rw [List.getElem_take] at e
            rw [List.length_take] at hq
            obtain ⟨l1, e1⟩ := List.getElem?_eq_some_iff.mp hg
            have := (List.getElem_inj (h₀ := by omega) (h₁ := l1) nd).mp (e.trans e1.symm)
            omega
          rw [putF_end nin]
          refine rm.write h1 (by first | (rw [hl]; trivial) | (rw [hA]; trivial) | (rw [d]; trivial)) ⟨dx, _, upd_same, ?_, ?_, ?_⟩
          · rw [List.map_append, hN, List.length_append, List.length_singleton, List.take_add_one, hg]; rfl
          · rw [List.map_append]
            exact (hV.out (out_mem hp)).append (by unfold RVs; exact ⟨w, [], rfl, ry.out (out_mem hp), by unfold RVs; rfl⟩)
          · rw [List.length_append, List.length_singleton]
            have l1 := (List.getElem?_eq_some_iff.mp hg).1
            omega
        · split at h
          · rename_i hi
            cases h
            have nd2 : (fs.map (·.1)).Nodup := by rw [hN]; exact nd.sublist (List.take_sublist _ _)
            obtain ⟨q1, q2⟩ := putF_in (y := w) (i := i) nd2 (by rw [hN, List.getElem?_take_of_lt hi]; exact hg)
            refine rm.write h1 (by first | (rw [hl]; trivial) | (rw [hA]; trivial) | (rw [d]; trivial)) ⟨dx, _, upd_same, by rw [q1, hN, List.length_set], by rw [q2]; exact RVs.set (ry.out (out_mem hp)) i (hV.out (out_mem hp)), ?_⟩
            have q := congrArg List.length q1
            rw [List.length_map, List.length_map] at q
            omega
          · cases h
      · cases h
    · cases h
  · cases h
theorem ss_fld (cl i : Nat) {g : Str} {pos' : Pos} (hc : Cls X.K (T.cA cl)) (hn : NoAttr X.K (T.cA cl) g) (nd : (T.cN cl).Nodup) (hl : (T.cN cl).length ≤ 100) (hg : (T.cN cl)[i]? = some g) (ho : SE X T W a ma) (hv : SE X T W b mb)
    (hs : swapsWith b (some (.Attribute a g pos')) pos.line X.env = pure false := by rfl) : SS X T W (.Assign [.Attribute a g pos'] b pos) (mSetF cl i ma mb) :=
  ⟨PS.imp (ps_fld ho.pe hv.pe hs) fun D σ H ⟨av, r, e, m, re, rm, h⟩ => ⟨av, r, e, m, re, rm, okR_imp (okS_sB re h) fun y m1 h r1 H1 w g1 rm1 rv1 =>
    ⟨av, r1, e, m1, re.grow g1, rm1, okR_imp (okS_sB (re.grow g1) (h.grow g1)) fun o m2 h r2 H2 u g2 rm2 rv2 => by
      split at h
      · rename_i m3 hst
        obtain ⟨p, dx, fs, rfl, hp, hA, hZ, rm3⟩ := stF_ok nd hl hg rm2 rv2 (rv1.grow g2) hst
        exact ⟨p, _, dx, fs, rfl, hA, hc, hn, hZ, h r2 _ σ (g2.trans (grow_write hp)) rm3 (re.grow ((g1.trans g2).trans (grow_write hp)))⟩
      · exact h.elim⟩⟩⟩

noncomputable def mRaise (c : Nat) : MS := fun e m => .exc c [] e m
theorem ss_raise (c : Nat) {mt : Str} {j : Nat} {p p2 pos' : Pos} {bmB : List Value} {B newId initId : String} (hc : X.calm = true) (tk : Takes X W) (F : ExcBaseFacts B newId initId bmB) (q : PySem.W.excIn X.K (T.cA c) bmB newId = true) (gC : X.mg x = some (.ref (T.cA c))) (kC : PySem.W.keepIn X.K (.ref (T.cA c)) = true)
    (rs : Raises X (.ref (T.cA c))) (hg : Gl X x) (hdb : (x == ("__debug__" : Str)) = false := by decide) : SS X T W (.Raise (some (.Call (.Name x p) [.Constant (.str mt) j p2] [] pos')) none pos) (mRaise c) :=
  ⟨PS.imp (ps_raise hc tk (pmk_own F q gC kC rs hg hdb)) fun D σ H ⟨av, r, e, m, re, rm, h⟩ => h r H σ _ none .refl rm re ⟨rfl, .inl rfl⟩⟩
noncomputable def spI (C : Addr) (fl : Str) : Sp := fun vs H Q _ => ∃ (a : Addr) (v : V), vs = [.ref a, v] ∧ H a = some (exo a C none) ∧ ∀ dx, H dx = none → dx ≠ a → Q .non (upd (upd H dx (exd dx [(fl, v)])) a (exo a C (some dx)))
noncomputable def mRaise1 (c : Nat) (me : ME) : MS := fun e m => sB (me e m) e fun v m1 => .exc c [v] e m1
theorem ss_raise1 (c : Nat) {fl : Str} {fI : Addr} {CX : CXT} (hc : X.calm = true) (tk : Takes X W) (hN : T.cN c = [fl]) (T0 : OexC X.K (T.cA c)) (iC : PySem.W.findIn X.K (.ref (T.cA c)) "__init__" = some (some (.ref fI))) (tI : PySem.W.typeIn X.K (.ref fI) = some (.type "function"))
    (F1 : FnOk X.prog X.w X.K X.mg X.base CX k fI fd ps (spI (T.cA c) fl)) (hr : Room (k + 1) X.A) (hb : Binds X.K fd ps []) (hx : Passes CX X (fun _ _ _ => False)) (hg : Gl X x) (hm : X.mg x = some (.ref (T.cA c))) (ha : SE X T W a ma) {pos' : Pos}
    (hdb : (x == ("__debug__" : Str)) = false := by decide) (hsa : starEach [a] X.env = (false, eval a X.env) :: starEach [] X.env := by rfl) : SS X T W (.Raise (some (.Call (.Name x p) [a] [] pos')) none pos) (mRaise1 c ma) :=
  ⟨PS.imp (ps_raise hc tk (pmk_oex (dvs := []) (ds := []) T0 iC tI F1 hr hb .nil hx hg hm (pa_cons ha.pe pa_nil hsa) hdb hsa (by rfl))) fun D σ H ⟨av, r, e, m, re, rm, h⟩ =>
    ⟨av, r, e, m, re, rm, okR_imp (okS_sB re h) fun v m1 h r1 H1 w g1 rm1 rv1 => by
      refine ⟨by simp, fun ai ha => ⟨ai, w, rfl, upd_same, fun dx hdx hne => ⟨rfl, dx, [(fl, w)], upd_same, by rw [upd_ne hne, upd_same], ?_, ?_⟩⟩⟩
      · rw [upd_ne hne] at hdx; exact hdx
      · rw [upd_ne hne] at hdx
        have f1 : ∀ b o, H1 b = some o → upd (del (upd (upd (upd H1 ai (exo ai (T.cA c) none)) dx (exd dx [(fl, w)])) ai (exo ai (T.cA c) (some dx))) ai) dx (.xd [(fl, w)]) b = some o := fun b o e => by
          have n1 : b ≠ dx := fun z => by rw [z, hdx] at e; cases e
          have n2 : b ≠ ai := fun z => by rw [z, ha] at e; cases e
          rw [upd_ne n1, del_ne n2, upd_ne n2, upd_ne n1, upd_ne n2]
          exact e
        have k1 : Kept H1 (upd (del (upd (upd (upd H1 ai (exo ai (T.cA c) none)) dx (exd dx [(fl, w)])) ai (exo ai (T.cA c) (some dx))) ai) dx (.xd [(fl, w)])) := fun b o e _ => f1 b o e
        have t1 : ∀ b, Hard H1 b → Hard (upd (del (upd (upd (upd H1 ai (exo ai (T.cA c) none)) dx (exd dx [(fl, w)])) ai (exo ai (T.cA c) (some dx))) ai) dx (.xd [(fl, w)])) b := fun b ⟨u, e, t⟩ => ⟨u, f1 b u e, t⟩
        have g2 : Grow r1 H1 r1 (upd (del (upd (upd (upd H1 ai (exo ai (T.cA c) none)) dx (exd dx [(fl, w)])) ai (exo ai (T.cA c) (some dx))) ai) dx (.xd [(fl, w)])) := ⟨⟨[], by simp, by simp⟩, fun b o e _ t => f1 b o e, t1⟩
        exact h r1 _ σ _ _ (g1.trans g2) (rm1.stay k1 t1 (rm1.tb.ext f1)) (re.grow (g1.trans g2)) ⟨rfl, .inr ⟨dx, [(fl, w)], rfl, ⟨rm1.freshA hdx, rm1.fresh hdx⟩, upd_same, by rw [hN]; rfl, by unfold RVs; exact ⟨w, [], rfl, rv1.grow g2, by unfold RVs; rfl⟩⟩⟩⟩⟩

end M

namespace M
open PySem PySem.Spec PyProof.Rows L2

noncomputable abbrev Cl := Value × Option Nat × (Addr → Value → Option Addr → TS)
noncomputable abbrev Ends.off (D : Ends) (i : Nat) : Ends := { nx := fun σ H => D.nx (σ.set i none) H, rt := D.rt, bk := fun σ H => D.bk (σ.set i none) H, ct := fun σ H => D.ct (σ.set i none) H }
noncomputable def clS (D : Ends) (o : Option Nat) (ts : Addr → Value → Option Addr → TS) (a : Addr) (cls : Value) (d : Option Addr) (σ : L2.St) (H : Hp) : Prop := match o with
  | none => ts a cls d D σ H
  | some i => ts a cls d (Ends.off D i) (σ.set i (some (.ref a))) H
noncomputable def wMix (K : PySem.W.Frag) (Wz : WX) (D : Ends) : List Cl → WX
  | [] => Wz
  | (c, o, ts) :: l => fun cls d σ H => ∃ yes, PySem.W.exmOne K cls c = some yes ∧ (yes = true → ∀ a, H a = none → clS D o ts a cls d σ H) ∧ (yes = false → wMix K Wz D l cls d σ H)
noncomputable def NmOk (X : Cx) : Option Nat → Option Str → Prop
  | none, none => True
  | some i, some n => X.N[i]? = some n ∧ X.env.kindOf n = some .local
  | _, _ => False
noncomputable abbrev wLen (X : Cx) (W : WX) : WX := fun cls d σ H => σ.length = X.N.length → W cls d σ H
inductive HdM (X : Cx) : List ExceptHandler → List Cl → Prop
  | nil : HdM X [] []
  | cons {x : Str} {c : Value} {o : Option Nat} {n : Option Str} {ts : Addr → Value → Option Addr → TS} {q : Stmt} {qs : List Stmt} {p1 p2 : Pos} {hs : List ExceptHandler} {l : List Cl} (hc : Names X x c) (hn : NmOk X o n)
      (hq : ∀ (a : Addr) (ob : Obj) (cls : Value) (d : Option Addr) (pn : List (Addr × Obj)), Zc cls d ob → (∃ vs, ob.data = .fields vs) → PSs (X.suite a ((a, ob) :: pn)) (q :: qs) (ts a cls d)) (r : HdM X hs l) :
      HdM X (.ExceptHandler (some (.Name x p1)) n (q :: qs) p2 :: hs) ((c, o, ts) :: l)
section
variable {X : Cx} {body : List Stmt} {hd : ExceptHandler} {hs : List ExceptHandler} {l : List Cl} {pos : Pos} {tb : WX → TS} {Wz : WX}
theorem ps_try_mix (hstk : X.stack = X.env :: X.outer) (hloc : X.env.frame = some X.env.locals) (hN : X.N.Nodup) (tk : Takes X Wz)
    (hb : ∀ (W : WX) (pn : List (Addr × Obj)) (xe : Value → Shared → Prop), Takes (X.tr pn xe) W → PassesOwn (model X.prog X.w) X.A X.env xe → PSs (X.tr pn xe) body (tb W))
    (hh : HdM X (hd :: hs) l) : PS X (.Try body (hd :: hs) [] [] pos) (fun D σ H => tb (wLen X (wMix X.K Wz D l)) D σ H) := by
  constructor
  intro pins s σ H D I h
  have okX := I.ok
  have hst : X.A.frames = some (X.env :: X.outer) := okX.frames.trans (congrArg some hstk)
  let catch_ : Value → Shared → Prop := fun e z1 => wpAny (model X.prog X.w) X.A (noteFrame e X.env) (fun _ z2 => wpAny (model X.prog X.w) X.A (setFlight e none) (fun _ z3 => wpAny (model X.prog X.w) X.A (handleBy e X.env (hd :: hs)) (SP X pins D) X.xe z3) X.xe z2) X.xe z1
  have hland : Takes (X.tr (X.pn ++ pins) catch_) (wLen X (wMix X.K Wz D l)) := by
    intro u sz ⟨a, B, sI, pins', σ', H', cls, d, eu, J', nb, up, sky, na, hos, ag, w⟩
    subst eu
    have J : Inv X pins σ' H' sI := J'.ofTry okX
    rw [hstk] at sky
    show wpAny _ X.A (noteFrame (.ref a) X.env) _ _ _
    refine Sky.land Zc.steady hst hloc sky fun g3 fl3 up3 => ?_
    have J3 : Inv X pins σ' H' { sz with heap := g3 } := J.landed nb fl3.1 (up.trans up3) hos ag
    obtain ⟨o3, v3, e3, z3, d3⟩ := fl3.there
    have off : a ∉ frs (X.env :: X.outer) := by
      intro hm
      obtain ⟨_, oo, eo, hne⟩ := fl3.2.2.1.mem hm
      cases e3.symm.trans eo
      exact hne _ d3
    have nl : a ≠ X.env.locals := fun z => off (List.mem_filterMap.mpr ⟨_, List.mem_cons_self, hloc.trans (congrArg some z.symm)⟩)
    have nf : a ∉ X.fs := fun hm => by
      obtain ⟨ev, hev, q⟩ := List.mem_filterMap.mp hm
      exact off (List.mem_filterMap.mpr ⟨ev, List.mem_cons_of_mem _ hev, q⟩)
    have S3 := J3.suite e3 d3 na nl nf
    have go : ∀ {hs' : List ExceptHandler} {l' : List Cl}, HdM X hs' l' → wMix X.K Wz D l' cls d σ' H' → wpAny (model X.prog X.w) X.A (handleBy (.ref a) X.env hs') (SP X pins D) X.xe { sz with heap := g3 } := by
      intro hs' l' hk
      induction hk with
      | nil =>
        intro w
        obtain ⟨_, _, _, ob, vs, tr, oT, ts', he, hz, hdt, h1, _⟩ := id fl3
        refine wpAny_handleBy_nil ?_
        have fin : wpAny (model X.prog X.w) X.A (setFlight (.ref a) X.env.frame) (fun _ z4 => wpAny (model X.prog X.w) X.A (throw (.ref a) : Sem Flow) (SP X pins D) X.xe z4) X.xe { sz with heap := g3 } := by
          rw [hloc]
          exact HandSPX.setFlight_upZ fl3 fun g4 fl4 up4 => wpAny_throw (tk _ _ ⟨a, B, sI, pins, σ', H', cls, d, rfl, J, nb, (up.trans up3).trans up4, .inr (.inr (by rw [hstk]; exact fl4)), na, hos, ag, w⟩)
        unfold PySem.passOn
        refine wpAny_bind (wpAny_field he hdt h1 ?_)
        rw [if_neg (by simp : ¬ ((Value.ref tr == Value.none) = true))]
        first | exact wpAny_bind (wpAny_pure (wpAny_bind fin)) | exact wpAny_bind fin
      | @cons x c o n ts q qs p1 p2 hs2 l2 hc hn hq r ih =>
        intro w
        obtain ⟨yes, hy, wy, wn⟩ := w
        refine wpAny_handleBy_cons (codeAny_handlers_test ?_) (fun z => nomatch z)
        have look : PySem.W.Looks (model X.prog X.w) g3 (typeOf (.ref a)) cls := fun A Q E s k q => wpAny_typeOf_ref (k _ _ e3) (by rw [z3.1]; exact q)
        have look2 := PySem.W.exm_one (M := model X.prog X.w) J3.kIn look hy
        have named : ∀ {Q : Value → Shared → Prop} {E : Value → Shared → Prop}, Q c { sz with heap := g3 } → wpAny (model X.prog X.w) (X.A.mark (some (.ref a))) (eval (.Name x p1) X.env) Q E { sz with heap := g3 } := by
          intro Q E k
          obtain ⟨hg, hdb, hm⟩ := hc
          rcases hm with hm | ⟨hm, hv, hnn⟩
          · exact ld_glob (X := X.suite a ((a, o3) :: (X.pn ++ pins))) S3 hg hm k hdb
          · exact ld_blt (X := X.suite a ((a, o3) :: (X.pn ++ pins))) S3 hg hm hv k hnn hdb
        refine named (look2.here ?_)
        cases yes with
        | false => exact ih (wn rfl)
        | true =>
          cases o with
          | none =>
            cases n with
            | some n => exact hn.elim
            | none =>
              refine codeAny_handlers_suite (HandSPX.lands_againZ fl3 fun g4 fl4 up4 => ?_)
              obtain ⟨o4, v4, e4, z4, d4⟩ := fl4.there
              have J4 : Inv X pins σ' H' { sz with heap := g4 } := J.landed nb fl4.1 ((up.trans up3).trans up4) hos ag
              have S4 := J4.suite e4 d4 na nl nf
              refine wpAny_mono ((hq a o4 cls d (X.pn ++ pins) z4 ⟨_, d4⟩).run [] _ _ H' _ S4 (wy rfl a na)) (fun f z6 hp => ?_) (fun _ _ z => z.elim)
              cases f with
              | ret u => obtain ⟨v, σ6, H6, S6, rv, k⟩ := hp; exact ⟨v, σ6, H6, S6.unsuite okX, rv, k⟩
              | next => obtain ⟨σ6, H6, S6, k⟩ := hp; exact ⟨σ6, H6, S6.unsuite okX, k⟩
              | brk => obtain ⟨σ6, H6, S6, k⟩ := hp; exact ⟨σ6, H6, S6.unsuite okX, k⟩
              | cont => obtain ⟨σ6, H6, S6, k⟩ := hp; exact ⟨σ6, H6, S6.unsuite okX, k⟩
          | some i =>
            cases n with
            | none => exact hn.elim
            | some n =>
              obtain ⟨hi, hl⟩ := hn
              refine codeAny_handlers_suite_as (HandSPX.lands_againZ fl3 fun g4 fl4 up4 => ?_)
              obtain ⟨o4, v4, e4, z4, d4⟩ := fl4.there
              have J4 : Inv X pins σ' H' { sz with heap := g4 } := J.landed nb fl4.1 ((up.trans up3).trans up4) hos ag
              have S4 := J4.suite e4 d4 na nl nf
              refine store_ok (X := X.suite a ((a, o4) :: (X.pn ++ pins))) (v := .ref a) S4 hN hi (.inl hl) rfl (fun z5 S5 => ?_) (.inr hl)
              refine wpAny_mono ((hq a o4 cls d (X.pn ++ pins) z4 ⟨_, d4⟩).run [] z5 _ H' _ S5 (wy rfl a na)) (fun f z6 hp => ?_) (fun _ _ z => z.elim)
              have fin : ∀ {σ6 : L2.St} {H6 : Hp} {Q : Shared → Prop}, Inv (X.suite a ((a, o4) :: (X.pn ++ pins))) [] σ6 H6 z6 → (∀ z7, Inv X pins (σ6.set i none) H6 z7 → Q z7) → wpAny (model X.prog X.w) X.A (do bindName X.env n .none; unbindBehindTheSuite X.env n p2) (fun _ z7 => Q z7) X.xe z6 := fun S6 k => gone_ok (S6.unsuite okX) hN hi hl k
              cases f with
              | ret u => obtain ⟨v, σ6, H6, S6, rv, k⟩ := hp; exact fin S6 fun z7 J7 => ⟨v, _, H6, J7, rv, k⟩
              | next => obtain ⟨σ6, H6, S6, k⟩ := hp; exact fin S6 fun z7 J7 => ⟨_, H6, J7, k⟩
              | brk => obtain ⟨σ6, H6, S6, k⟩ := hp; exact fin S6 fun z7 J7 => ⟨_, H6, J7, k⟩
              | cont => obtain ⟨σ6, H6, S6, k⟩ := hp; exact fin S6 fun z7 J7 => ⟨_, H6, J7, k⟩
    exact go hh (w J.len)
  refine wpAny_Try_except (wpAny_mono ((hb (wLen X (wMix X.K Wz D l)) (X.pn ++ pins) catch_ hland PassesOwn.looking).run [] s σ H D (I.toTry _) h) (fun f z1 hp => ?_) (fun e z1 he => he))
  cases f with
  | ret u => obtain ⟨v, σ', H', J', rv, k⟩ := hp; exact ⟨v, σ', H', J'.ofTry okX, rv, k⟩
  | next => obtain ⟨σ', H', J', k⟩ := hp; exact wpAny_execs_nil ⟨σ', H', J'.ofTry okX, k⟩
  | brk => obtain ⟨σ', H', J', k⟩ := hp; exact ⟨σ', H', J'.ofTry okX, k⟩
  | cont => obtain ⟨σ', H', J', k⟩ := hp; exact ⟨σ', H', J'.ofTry okX, k⟩
end
end M

namespace M
open PySem PySem.Spec PyProof.Rows L2
variable {X : Cx} {T : Tx} {W : WX} {a b c : Expr} {ma mb mc : ME} {mt mu : MT} {ms mv : MS} {pos : Pos} {st : Stmt} {rest sts : List Stmt}
variable {av av' : Av} {r r' r2 : List Addr} {H H' H2 : Hp} {m m' : Mem}

noncomputable abbrev Tx.hold (T : Tx) (q d : Addr) : Tx := { T with ex := some (q, d) }
mutual
theorem RV.hold {q d : Addr} (h0 : T.ex = none) : ∀ (x : PV) {v : V}, RV T av r H x v → RV (T.hold q d) av r H x v
  | .non, _, h => by unfold RV at *; exact h
  | .bl _, _, h => by unfold RV at *; exact h
  | .int _, _, h => by unfold RV at *; exact h
  | .str _, _, h => by unfold RV at *; exact h
  | .tup xs, _, h => by
    unfold RV at *
    obtain ⟨a, vs, e, h1, h2⟩ := h
    exact ⟨a, vs, e, h1, RVs.hold h0 xs h2⟩
  | .kst xs, _, h => by
    unfold RV at *
    obtain ⟨a, vs, e, k, h2⟩ := h
    exact ⟨a, vs, e, k, RVs.hold h0 xs h2⟩
  | .lst xs, _, h => by
    unfold RV at *
    obtain ⟨a, vs, e, o, k, h2⟩ := h
    exact ⟨a, vs, e, o, k, RVs.hold h0 xs h2⟩
  | .ins c ws, _, h => by
    unfold RV at *
    obtain ⟨a, dx, fs, e, o, k, n, h2⟩ := h
    exact ⟨a, dx, fs, e, o, k, n, RVs.hold h0 ws h2⟩
  | .dtt ks ws, _, h => by
    unfold RV at *
    obtain ⟨a, kvs, e, o, k, nm, h2⟩ := h
    exact ⟨a, kvs, e, o, k, nm, RVs.hold h0 ws h2⟩
  | .exn c ws, _, h => by
    unfold RV at h
    obtain ⟨a, dx, fs, ex, _⟩ := h
    rw [h0] at ex
    cases ex
  | .dct ks ws, _, h => by
    unfold RV at *
    obtain ⟨a, vs, e, o, k, h2⟩ := h
    exact ⟨a, vs, e, o, k, RVs.hold h0 ws h2⟩
  | .glo _, _, h => by unfold RV at *; exact h
  | .opq, _, _ => by unfold RV; trivial
  | .ftup xs, _, h => by
    unfold RV at *
    obtain ⟨a, vs, ob, e, kt, dn, o, d, h2⟩ := h
    exact ⟨a, vs, ob, e, kt, dn, o, d, RVs.hold h0 xs h2⟩
  | .clo0 l, _, h => by
    unfold RV at *
    obtain ⟨f, c, F, φ, ψ, cl, e, z, o1, d1, o2, d2⟩ := h
    exact ⟨f, c, F, φ, ψ, cl, e, z, o1, d1, o2, d2⟩
  | .clo l xs, _, h => by
    unfold RV at *
    obtain ⟨f, c, F, φ, ψ, cl, vs, e, z, o1, d1, o2, d2, ct, h2⟩ := h
    exact ⟨f, c, F, φ, ψ, cl, vs, e, z, o1, d1, o2, d2, ct.imp (fun a ob o d => ⟨o, d⟩), RVs.hold h0 xs h2⟩
  | .lam l, _, h => by
    unfold RV at *
    obtain ⟨f, c, F, φ, ψ, e, z, o1, d1, o2, d2⟩ := h
    exact ⟨f, c, F, φ, ψ, e, z, o1, d1, o2, d2⟩
  | .ref i, _, h => by unfold RV at *; exact h
theorem RVs.hold {q d : Addr} (h0 : T.ex = none) : ∀ (xs : List PV) {vs : List V}, RVs T av r H xs vs → RVs (T.hold q d) av r H xs vs
  | [], _, h => by unfold RVs at *; exact h
  | x :: xs, _, h => by
    unfold RVs at *
    obtain ⟨v, ws, e, h1, h2⟩ := h
    exact ⟨v, ws, e, RV.hold h0 x h1, RVs.hold h0 xs h2⟩
end
mutual
theorem RV.let_ {q d : Addr} : ∀ (x : PV) {v : V}, noRef x = true → RV (T.hold q d) av r H x v → RV T av r H x v
  | .non, _, _, h => by unfold RV at *; exact h
  | .bl _, _, _, h => by unfold RV at *; exact h
  | .int _, _, _, h => by unfold RV at *; exact h
  | .str _, _, _, h => by unfold RV at *; exact h
  | .tup xs, _, n, h => by
    unfold noRef at n
    unfold RV at *
    obtain ⟨a, vs, e, h1, h2⟩ := h
    exact ⟨a, vs, e, h1, RVs.let_ xs n h2⟩
  | .kst xs, _, n, h => by
    unfold noRef at n
    unfold RV at *
    obtain ⟨a, vs, e, k, h2⟩ := h
    exact ⟨a, vs, e, k, RVs.let_ xs n h2⟩
  | .lst xs, _, n, h => by
    unfold noRef at n
    unfold RV at *
    obtain ⟨a, vs, e, o, k, h2⟩ := h
    exact ⟨a, vs, e, o, k, RVs.let_ xs n h2⟩
  | .ins c ws, _, n, h => by
    unfold noRef at n
    unfold RV at *
    obtain ⟨a, dx, fs, e, o, k, nm, h2⟩ := h
    exact ⟨a, dx, fs, e, o, k, nm, RVs.let_ ws n h2⟩
  | .dtt ks ws, _, n, h => by
    unfold noRef at n
    unfold RV at *
    obtain ⟨a, kvs, e, o, k, nm, h2⟩ := h
    exact ⟨a, kvs, e, o, k, nm, RVs.let_ ws n h2⟩
  | .exn c ws, _, n, h => by unfold noRef at n; cases n
  | .dct ks ws, _, n, h => by
    unfold noRef at n
    unfold RV at *
    obtain ⟨a, vs, e, o, k, h2⟩ := h
    exact ⟨a, vs, e, o, k, RVs.let_ ws n h2⟩
  | .glo _, _, _, h => by unfold RV at *; exact h
  | .opq, _, _, _ => by unfold RV; trivial
  | .ftup xs, _, n, h => by
    unfold noRef at n
    unfold RV at *
    obtain ⟨a, vs, ob, e, kt, dn, o, d, h2⟩ := h
    exact ⟨a, vs, ob, e, kt, dn, o, d, RVs.let_ xs n h2⟩
  | .clo0 l, _, _, h => by
    unfold RV at *
    obtain ⟨f, c, F, φ, ψ, cl, e, z, o1, d1, o2, d2⟩ := h
    exact ⟨f, c, F, φ, ψ, cl, e, z, o1, d1, o2, d2⟩
  | .clo l xs, _, n, h => by
    unfold noRef at n
    unfold RV at *
    obtain ⟨f, c, F, φ, ψ, cl, vs, e, z, o1, d1, o2, d2, ct, h2⟩ := h
    exact ⟨f, c, F, φ, ψ, cl, vs, e, z, o1, d1, o2, d2, ct.imp (fun a ob o d => ⟨o, d⟩), RVs.let_ xs n h2⟩
  | .lam l, _, _, h => by
    unfold RV at *
    obtain ⟨f, c, F, φ, ψ, e, z, o1, d1, o2, d2⟩ := h
    exact ⟨f, c, F, φ, ψ, e, z, o1, d1, o2, d2⟩
  | .ref i, _, n, h => by unfold noRef at n; cases n
theorem RVs.let_ {q d : Addr} : ∀ (xs : List PV) {vs : List V}, noRefs xs = true → RVs (T.hold q d) av r H xs vs → RVs T av r H xs vs
  | [], _, _, h => by unfold RVs at *; exact h
  | x :: xs, _, n, h => by
    unfold noRefs at n
    rw [Bool.and_eq_true] at n
    unfold RVs at *
    obtain ⟨v, ws, e, h1, h2⟩ := h
    exact ⟨v, ws, e, RV.let_ x n.1 h1, RVs.let_ xs n.2 h2⟩
end
structure ExF (K : PySem.W.Frag) (C : Addr) (fl : Str) : Prop where
  ga : PySem.W.findIn K (.ref C) "__getattribute__" = some (some (.builtin "BaseException.__getattribute__"))
  gg : PySem.W.findIn K (.ref C) "__getattr__" = some none
  sub : PySem.W.subIn K (.ref C) (.type "BaseException") = some true
  hd : PySem.W.hasDictIn K C = true
  no : PySem.W.findIn K (.ref C) fl = some none
noncomputable def mExF (cl i : Nat) (ma : ME) : ME := fun e m => (ma e m).bind fun x m1 => match x with
  | .exn c ws => if c == cl then match ws[i]? with
      | some w => .ok w m1
      | none => .bad
    else .bad
  | _ => .bad
theorem se_exf {q dx : Addr} {ob : Obj} {pn : List (Addr × Obj)} {cl i : Nat} {fl : Str} (F : ExF X.K (T.cA cl) fl) (hz : Zc (.ref (T.cA cl)) (some dx) ob) (hf : ∃ vs, ob.data = .fields vs) (he : SE (X.suite q ((q, ob) :: pn)) (T.hold q dx) W a ma)
    (nd : (T.cN cl).Nodup) (hi : (T.cN cl)[i]? = some fl) (hb : attributeBase a fl X.env (eval a X.env) = eval a X.env := by rfl) : SE (X.suite q ((q, ob) :: pn)) (T.hold q dx) W (.Attribute a fl pos) (mExF cl i ma) := by
  refine ⟨⟨fun pins s σ H Q I ⟨av, r, e, m, re, rm, h⟩ => ?_⟩⟩
  refine attr_of hb (thn (he.pe.run pins s σ H (fun x H1 => x = .ref q ∧ ∃ fs v, H1 dx = some (.xd fs) ∧ fs.lookup fl = some v ∧ Q v H1) I ⟨av, r, e, m, re, rm, okR_imp (okR_bind h) fun x m1 k r1 H1 w g1 rm1 rv => ?_⟩) fun u s1 hh => ?_)
  · split at k
    · rename_i c ws
      split at k
      · rename_i hc
        have ec := eq_of_beq hc
        subst ec
        split at k
        · rename_i w' hw
          unfold RV at rv
          obtain ⟨q', dx', fs, ex, rfl, o, d, n, h2⟩ := rv
          cases ex
          obtain ⟨v, hv, rv⟩ := h2.get hw
          exact ⟨rfl, fs, v, d, lookup_at (by rw [n]; exact nd) (by rw [n]; exact hi) hv, k r1 H1 v g1 rm1 rv⟩
        · exact k.elim
      · exact k.elim
    · exact k.elim
  · obtain ⟨x, H1, I1, rx, ex, fs, v, ea, hl, hq⟩ := hh
    subst ex
    cases rx
    obtain ⟨ha, _⟩ := I1.pin (q, ob) (List.mem_append_left _ List.mem_cons_self)
    obtain ⟨vs, hd⟩ := hf
    obtain ⟨mA, hns, hr⟩ := (I1.hok dx _ ea : ObjOk X.prog X.w H1 s1.heap dx (.xd fs))
    obtain ⟨od, ho, hlk⟩ := lookIn_ns hns
    obtain ⟨u, hu, ru⟩ := RelO.some_of (v := v) (o := mA fl) (by rw [← hl]; exact hr fl)
    have J : PySem.W.InstAt s1.heap q ob (T.cA cl) (some od) := ⟨ha, hz.1, by unfold PySem.W.notCls; rw [hd] <;> rfl, by rw [hz.2]; exact ho⟩
    exact HandSPX.exc_get I1.kIn J F.ga F.gg F.sub (PySem.W.findObj_own F.hd F.no rfl (by rw [hlk, hu])) (handed_of ru) ⟨v, H1, I1.tok _, ru, hq⟩
end M

namespace M
open PySem PySem.Spec PyProof.Rows L2
variable {X : Cx} {T : Tx} {W : WX} {ma mb mc : ME} {mt mu : MT} {ms mv : MS} {pos : Pos} {st : Stmt} {rest sts : List Stmt}
variable {av av' : Av} {r r' r2 : List Addr} {H H' H2 : Hp} {m m' : Mem}

noncomputable abbrev Hd := Nat × Option Nat × MS
noncomputable def suiteS (e : Env) (ms : MS) (m : Mem) : Res PV := match ms e [] with
  | .rt v _ => if noRef v then .ok v m else .bad
  | _ => .bad
noncomputable def metH (n : Nat) : List Hd → Nat → List PV → Mem → Res PV
  | [], _, _, _ => .bad
  | (c', none, ms) :: l, c, ws, m => if c == c' then suiteS (List.replicate n none) ms m else metH n l c ws m
  | (c', some i, ms) :: l, c, ws, m => if c == c' then (if !ws.isEmpty && noRefs ws then suiteS ((List.replicate n none).set i (some (.exn c ws))) ms m else .bad) else metH n l c ws m
noncomputable def mMet (n nX : Nat) (l : List Hd) (fine : MS) (mb : ME) : ME := fun e m => match mb e m with
  | .ok _ m1 => suiteS (List.replicate n none) fine m1
  | .exc c ws m1 => if Nat.blt c nX then metH n l c ws m1 else .bad
  | .bad => .bad
noncomputable abbrev WF : WX := fun _ _ _ _ => False
noncomputable def tSu (T : Tx) (c : Nat) (ms : MS) : Option Nat → Addr → Value → Option Addr → TS
  | none => fun _ _ _ => tS T WF ms
  | some _ => fun q cls d D σ H => ∃ dx, d = some dx ∧ cls = .ref (T.cA c) ∧ tS (T.hold q dx) WF ms D σ H
inductive HdS (X : Cx) (T : Tx) (nX : Nat) : List ExceptHandler → List Hd → Prop
  | nil : HdS X T nX [] []
  | plain {x : Str} {c : Nat} {ms : MS} {q : Stmt} {qs : List Stmt} {p1 p2 : Pos} {hs : List ExceptHandler} {l : List Hd} (hl : c < nX) (hc : Names X x (.ref (T.cA c)))
      (hq : ∀ (a : Addr) (ob : Obj) (pn : List (Addr × Obj)), SB (X.suite a ((a, ob) :: pn)) T WF (q :: qs) ms) (r : HdS X T nX hs l) : HdS X T nX (.ExceptHandler (some (.Name x p1)) none (q :: qs) p2 :: hs) ((c, none, ms) :: l)
  | bound {x n : Str} {c i : Nat} {ms : MS} {q : Stmt} {qs : List Stmt} {p1 p2 : Pos} {hs : List ExceptHandler} {l : List Hd} (hl : c < nX) (hc : Names X x (.ref (T.cA c))) (hi : X.N[i]? = some n) (hk : X.env.kindOf n = some .local)
      (hq : ∀ (a dx : Addr) (ob : Obj) (pn : List (Addr × Obj)), Zc (.ref (T.cA c)) (some dx) ob → (∃ vs, ob.data = .fields vs) → SB (X.suite a ((a, ob) :: pn)) (T.hold a dx) WF (q :: qs) ms) (r : HdS X T nX hs l) :
      HdS X T nX (.ExceptHandler (some (.Name x p1)) (some n) (q :: qs) p2 :: hs) ((c, some i, ms) :: l)
noncomputable abbrev clOf (T : Tx) (l : List Hd) : List Cl := l.map fun x => (.ref (T.cA x.1), x.2.1, tSu T x.1 x.2.2 x.2.1)
theorem HdS.toM {nX : Nat} {hs : List ExceptHandler} {l : List Hd} (h : HdS X T nX hs l) : HdM X hs (clOf T l) := by
  induction h with
  | nil => exact .nil
  | plain hl hc hq _ ih => exact .cons hc trivial (fun a ob cls d pn _ _ => (hq a ob pn).ps) ih
  | @bound x n c i ms q qs p1 p2 hs l hl hc hi hk hq _ ih =>
    refine .cons hc ⟨hi, hk⟩ (fun a ob cls d pn hz hf => ⟨fun pins s σ H D I h => ?_⟩) ih
    obtain ⟨dx, rfl, rfl, h⟩ := h
    exact (hq a dx ob pn hz hf).ps.run pins s σ H D I h
theorem HdS.lt {nX : Nat} {hs : List ExceptHandler} {l : List Hd} (h : HdS X T nX hs l) : ∀ x ∈ l, x.1 < nX := by
  induction h with
  | nil => exact fun x hx => nomatch hx
  | plain hl _ _ _ ih => exact fun x hx => (List.mem_cons.mp hx).elim (fun z => z ▸ hl) (ih x)
  | bound hl _ _ _ _ _ ih => exact fun x hx => (List.mem_cons.mp hx).elim (fun z => z ▸ hl) (ih x)
theorem re_blank : ∀ σ : L2.St, RE T av r H (List.replicate σ.length none) σ
  | [] => .nil
  | _ :: σ => .cons (fun _ z => nomatch z) (re_blank σ)
theorem suiteS_ok {e : Env} {Wr : Value → Option Addr → Hp → Prop} {K : PV → Mem → Prop} (h : okR T av r H Wr K (suiteS e ms m)) : ∃ v m2, ms e [] = .rt v m2 ∧ noRef v = true ∧ K v m := by
  unfold suiteS at h
  split at h
  · rename_i v m2 hv
    split at h
    · rename_i hn
      exact ⟨v, m2, hv, hn, h⟩
    · exact h.elim
  · exact h.elim
theorem suite_plain {Q : VK} {D : Ends} (hD : D.rt = Q) {σ : L2.St} {n : Nat} (hσ : σ.length = n) {Wr : Value → Option Addr → Hp → Prop} (g : Grow r H r' H') (rm : RM T av r' H' m) (h : okR T av r H Wr (KE T av r H Q) (suiteS (List.replicate n none) ms m)) : tS T WF ms D σ H' := by
  obtain ⟨v, m2, hv, hn, k⟩ := suiteS_ok h
  subst hσ
  refine ⟨AvR av r', [], List.replicate σ.length none, [], re_blank σ, rm.empty, ?_⟩
  rw [hv]
  intro r2 H3 w g2 rm3 rv
  rw [hD]
  exact k r' H3 w (g.trans g2.pure) (rm.stay g2.kept g2.there rm3.tb) (RV.move (fun _ o _ => out_back o) (fun _ _ e _ => e) v hn rv)
noncomputable def Apart (T : Tx) (nX : Nat) : Prop := ∀ c c', c < nX → c' < nX → PySem.W.exmOne T.K (.ref (T.cA c)) (.ref (T.cA c')) = some (c == c')
theorem metH_ok {nX : Nat} (hX : Apart T nX) (h0 : T.ex = none) {Q : VK} {D : Ends} (hD : D.rt = Q) {σ : L2.St} {n : Nat} (hσ : σ.length = n) {Wr : Value → Option Addr → Hp → Prop} {c : Nat} {ws : List PV} {cls : Value} {d : Option Addr} (hc : c < nX) (g : Grow r H r' H') (rm : RM T av r' H' m) (rx : RX T av r' H' c ws cls d) :
    ∀ {l : List Hd}, (∀ x ∈ l, x.1 < nX) → okR T av r H Wr (KE T av r H Q) (metH n l c ws m) → wMix T.K WF D (clOf T l) cls d σ H'
  | [], _, h => h.elim
  | (c', none, ms) :: l, hl, h => by
    unfold metH at h
    refine ⟨c == c', by rw [rx.1]; exact hX c c' hc (hl _ List.mem_cons_self), fun hy q hq => ?_, fun hn => ?_⟩
    · rw [if_pos hy] at h
      exact suite_plain hD hσ g rm h
    · rw [if_neg (by rw [hn]; exact Bool.false_ne_true)] at h
      exact metH_ok hX h0 hD hσ hc g rm rx (fun x hx => hl x (List.mem_cons_of_mem _ hx)) h
  | (c', some i, ms) :: l, hl, h => by
    unfold metH at h
    refine ⟨c == c', by rw [rx.1]; exact hX c c' hc (hl _ List.mem_cons_self), fun hy q hq => ?_, fun hn => ?_⟩
    · rw [if_pos hy] at h
      have e1 := eq_of_beq hy
      subst e1
      split at h
      · rename_i hw
        rw [Bool.and_eq_true, Bool.not_eq_true'] at hw
        obtain ⟨v, m2, hv, hn, k⟩ := suiteS_ok h
        rcases rx.2 with z | ⟨dx, fs, ed, o, hx, nm, rvs⟩
        · rw [z] at hw; exact absurd hw.1 (by simp)
        · subst hσ
          refine ⟨dx, ed, rx.1, AvR av r', [], _, [], (re_blank σ).set (v := .exn c ws) ?_ i, ⟨rfl, List.nodup_nil, fun i o a h1 => by simp at h1, rm.tb, rm.empty.th, rm.empty.nt⟩, ?_⟩
          · unfold RV
            exact ⟨q, dx, fs, rfl, rfl, out_in o, hx, nm, RVs.hold h0 ws (RVs.move (fun b o _ => out_in o) (fun b o e _ => e) ws hw.2 rvs)⟩
          · refine (congrArg (okS (T.hold q dx) (AvR av r') [] H' WF (Ends.off D i)) hv).mpr ?_
            intro r2 H3 w g2 rm3 rv
            show D.rt w H3
            rw [hD]
            exact k r' H3 w (g.trans g2.pure) (rm.stay g2.kept g2.there rm3.tb) (RV.move (fun _ o _ => out_back o) (fun _ _ e _ => e) v hn (RV.let_ v hn rv))
      · exact h.elim
    · rw [if_neg (by rw [hn]; exact Bool.false_ne_true)] at h
      exact metH_ok hX h0 hD hσ hc g rm rx (fun x hx => hl x (List.mem_cons_of_mem _ hx)) h

section
variable {x a : Str} {g c P : Addr} {k nX : Nat} {stm : Stmt} {fd : FuncData} {Ng : List Str} {params : Arguments} {body : Expr} {scope : Scope} {lpos p p1 p2 p3 p4 : Pos} {hd : ExceptHandler} {hs : List ExceptHandler} {rest : List Stmt} {l : List Hd} {fine : MS} {mb : ME}
noncomputable def TMet (T : Tx) (n : Nat) (l : List Hd) (fine : MS) : (XK → Hp → VK → Prop) → Hp → VK → Prop := fun tl H Q =>
  tl (fun cls d H' => ∀ σ : L2.St, σ.length = n → wMix T.K WF { nx := fun σ H' => tS T WF fine { nx := fun _ H' => Q .non H', rt := Q } σ H', rt := Q } (clOf T l) cls d σ H') H
    (fun _ H' => ∀ σ : L2.St, σ.length = n → tS T WF fine { nx := fun _ H' => Q .non H', rt := Q } σ H')
noncomputable abbrev metCx (X : Cx) (Ng : List Str) (x : Str) (sc : Scope) (g : Addr) (cdg : Value) (s : Shared) (H : Hp) : Cx := (cxOf C8.CX0 X.prog X.w X.K X.mg X.base Ng x sc g cdg X.A X.stack s H C8.E0).nox
theorem PE.wk {e : Expr} {t : TE} (h : PE X e t) : PE X e (fun σ H Q => ∃ Qe : VK, (∀ v H', Qe v H' → Q v H') ∧ t σ H Qe) :=
  ⟨fun pins s σ H Q I ⟨Qe, hq, k⟩ => thn (h.run pins s σ H Qe I k) fun u s1 ⟨y, H1, I1, ry, q⟩ => ⟨y, H1, I1, ry, hq _ _ q⟩⟩
theorem met_gives {cdg : Value} {q : Str} (hK : X.K = T.K) (hN : Ng.Nodup) (hNg : Ng[0]? = some a)
    (hH : ∀ (s : Shared) (H : Hp), HdS (metCx X Ng x (defScope stm) g cdg s H) T nX (hd :: hs) l) (hF : ∀ (s : Shared) (H : Hp), SB (metCx X Ng x (defScope stm) g cdg s H) T WF rest fine) :
    LamX.GivesTo X Ng x (defScope stm) g cdg (.Try [.Expr (.Call (.Name a p1) [] [] p2) p3] (hd :: hs) [] [] p4 :: rest) a q (TMet T Ng.length l fine) := by
  intro f c' s H Q tl act hc h
  have hl : (L2.start Ng [V.ref f]).length = Ng.length := by
    show (([V.ref f].map some) ++ List.replicate (Ng.length - [V.ref f].length) none).length = _
    cases Ng with
    | nil => cases hNg
    | cons y ys => simp
  refine ⟨_, pss_cons (ps_try_mix (X := metCx X Ng x (defScope stm) g cdg s H) (Wz := WF)
      (tb := fun W D σ H => ∃ Ech : XK, (∀ cls d σ' H', Ech cls d H' → W cls d σ' H') ∧ σ[0]? = some (some (.ref f)) ∧ H c' = some (LamX.CodeO c' q) ∧ ∃ Qe : VK, (∀ v H', Qe v H' → D.nx σ H') ∧ tl Ech H Qe)
      rfl rfl hN LamX.takes0 (fun W pn xe tk _ => ?_) (hH s H).toM) (hF s H).ps, ?_⟩
  · refine ⟨fun pins s' σ H' D I ⟨Ech, hW, h1, h2, Qe, h3, h4⟩ => ?_⟩
    exact (pss_one (ps_expr (M.PE.wk (act W pn xe Ech p1 p2 tk hW)))).run pins s' σ H' D I ⟨Qe, h3, h1, h2, h4⟩
  · refine ⟨fun cls d H' => ∀ σ : L2.St, σ.length = Ng.length → wMix T.K WF { nx := fun σ H' => tS T WF fine { nx := fun _ H' => Q .non H', rt := Q } σ H', rt := Q } (clOf T l) cls d σ H', fun cls d σ' H' e hn => ?_, rfl, hc, _, fun v H' k => k _ hl, h⟩
    have q := e σ' hn
    rw [← hK] at q
    exact q
theorem se_met {n : Nat} (h0 : T.ex = none) (hK : X.K = T.K) (hX : Apart T nX) (F : Fun X.K x x stm g fd) (hst : defBody stm = .Try [.Expr (.Call (.Name a p1) [] [] p2) p3] (hd :: hs) [] [] p4 :: rest) (Sg : FnScope Ng [a] (defScope stm)) (hNg : Ng[0]? = some a) (hva : Vis (defScope stm) a)
    (hH : ∀ (cdg : Value) (s : Shared) (H : Hp), HdS (metCx X Ng x (defScope stm) g cdg s H) T nX (hd :: hs) l) (hF : ∀ (cdg : Value) (s : Shared) (H : Hp), SB (metCx X Ng x (defScope stm) g cdg s H) T WF rest fine)
    (hn : Ng.length = n) (hg : Gl X x) (hm : X.mg x = some (.ref g)) (hb : L2.Binds X.K fd [a] []) (TB : LamX.TabB X.base X.mg c P) (hcode : X.env.code = .ref c) (hmT : (P, X.env.qual ++ "<lambda>") ∈ T.tb) (hu : ∀ p ∈ T.tb, p.1 = P → p.2 = X.env.qual ++ "<lambda>") (hr : Room (k + 2) X.A)
    (L : LamX.LamS X.env.scope scope) (hdef : defaultsOf params X.env = ([], [])) (hbind : ∀ (q : Str) (cl : List (Str × Addr)) (pm cv ctv : Value), bindArgs (PySem.W.kla_fn "<lambda>" q params body scope cl pm cv ctv) ⟨[], []⟩ = pure [])
    (hlam : ∀ (A : Around) (outer : List PySem.Env) (s : Shared) (H : Hp) (E : XK) (f c' : Addr), Room k (A.deeper (LamX.lamEnv X scope s.heap.objs.size f c')) → SE (LamX.lamCx X A outer s H E scope f c') T (WN E) body mb)
    (hdb : (x == ("__debug__" : Str)) = false := by decide) (hd' : (a == ("__debug__" : Str)) = false := by decide) (hcd : (a == ("__classdict__" : Str)) = false := by decide) :
    SE X T W (.Call (.Name x p) [.Lambda params body scope lpos] [] pos) (mMet n nX l fine mb) := by
  subst hn
  obtain ⟨oc, od, kV, doc, pm, an, cdv, ct, osl, ef, lk, hcd2⟩ := F.ex
  rw [hst] at ef
  subst ef
  refine ⟨PE.imp (LamX.pe_lamcall (T := T.tb) (k := k) (t := fun E => tE T (WN E) mb) hg hm F.kp lk hcd2 hb Sg hNg hva (met_gives (stm := stm) (p1 := p1) (p2 := p2) (p3 := p3) (p4 := p4) hK Sg.nd hNg (hH cdv) (hF cdv)) TB hcode hmT hu hr L hdef hbind
    (fun A outer s H E f c' hr => (hlam A outer s H E f c' hr).pe) hdb hd' hcd) fun σ H Q ⟨av, r, e, m, re, rm, h⟩ => ?_⟩
  refine ⟨rm.tb, fun H1 eN T1 => ?_⟩
  have k1 : Kept H H1 := fun b o e t => eN b o e (nTbl_ne t)
  have t1 : ∀ b, Hard H b → Hard H1 b := fun b ⟨o, e, t⟩ => ⟨o, k1 b o e t, t⟩
  have g1 : Grow r H r H1 := ⟨⟨[], by simp, by simp⟩, fun b o e _ t => k1 b o e (nTbl_of t), t1⟩
  refine ⟨av, r, e, m, RE.map (fun x v q => RV.stay k1 x q) re, rm.stay k1 t1 T1, ?_⟩
  unfold mMet at h
  cases hv : mb e m with
  | bad => rw [hv] at h; exact h
  | ok v m1 =>
    rw [hv] at h
    intro r2 H2 w g2 rm2 rv2 σ' hl'
    exact suite_plain rfl hl' (g1.trans g2) rm2 h
  | exc cc ws m1 =>
    rw [hv] at h
    intro r2 H2 cls d g2 rm2 rx σ' hl'
    replace h : okR T av r H (fun c d H' => W c d σ H') (KE T av r H Q) (if Nat.blt cc nX then metH Ng.length l cc ws m1 else .bad) := h
    split at h
    · rename_i hlt
      exact metH_ok hX h0 rfl hl' (Nat.blt_eq.mp hlt) (g1.trans g2) rm2 rx (hH .none X.s_0 H).lt h
    · exact h.elim
end
end M

namespace M
open PySem PySem.Spec PyProof.Rows L2
variable {X : Cx} {T : Tx} {W : WX} {a : Expr} {ma mb mc : ME} {mt mu : MT} {ms mv : MS} {pos : Pos} {st : Stmt} {rest sts : List Stmt}
variable {av av' : Av} {r r' r2 : List Addr} {H H' H2 : Hp} {m m' : Mem}
variable {x : Str} {p : Pos} {es : List Expr} {mr : MA} {f : Addr} {fd : FuncData} {ps : List Str} {k n : Nat} {mf : MF} {E : XK}

structure FnG (P : Program) (w : World) (K : PySem.W.Frag) (mg : Str → Option Value) (base : Heap) (CX : CXT) (k : Nat) (f : Addr) (fd : FuncData) (ps : List Str) (sp : Sp) : Prop where
  many : ∀ vs H Q E, sp vs H Q E → vs.length = ps.length
  go : ∀ (A : Around) (outer : List PySem.Env) (s : Shared) (H : Hp) (g : Args) (us : List Value) (vs : List V) (Q : VK) (E : XK), A.guards = some [] → Room k A → Env0 P w K mg base A outer s H → BindsTo s fd g (ps.zip us) → Vals vs us → sp vs H Q E →
    codeAny (model P w) A (.call (.ref f) g) (CR CX outer P w H s Q E) s
theorem FnG.of {P : Program} {w : World} {K : PySem.W.Frag} {mg : Str → Option Value} {base : Heap} {CX : CXT} {sp : Sp} (F : FnOk P w K mg base CX k f fd ps sp) : FnG P w K mg base CX k f fd ps sp :=
  ⟨F.len, fun A outer s H g us vs Q E _ => F.run A outer s H g us vs Q E⟩
theorem run_fg {CX : CXT} {sp : Sp} {pins : List (Addr × Obj)} {σ : L2.St} {H : Hp} {s : Shared} {Q : VK} {us : List Value} {vs : List V} (F : FnG X.prog X.w X.K X.mg X.base CX k f fd ps sp) (gd : X.A.guards = some []) (hr : Room k X.A) (hb : Binds X.K fd ps []) (hx : Passes CX X E)
    (I : Inv X pins σ H s) (rv : Vals vs us) (h : sp vs H Q E) : wpAny (model X.prog X.w) X.A (call (.ref f) us) (EP X pins σ Q) X.xe s := by
  have hl : us.length = ps.length := rv.length.symm.trans (F.many vs H Q E h)
  have hbt := hb s us I.kIn (by rw [List.append_nil]; exact hl)
  rw [List.append_nil] at hbt
  refine wpAny_call (codeAny_mono (F.go X.A X.stack s H ⟨us, []⟩ us vs Q E gd hr I.env0 hbt rv h) fun res s' hq => ?_)
  rcases res with e | fl
  · exact hx pins σ H s e s' I hq
  · cases fl with
    | ret u => exact I.after hq
    | next => exact False.elim hq
    | brk => exact False.elim hq
    | cont => exact False.elim hq
theorem pe_callG {CX : CXT} {sp : Sp} {t : TA} (F : FnG X.prog X.w X.K X.mg X.base CX k f fd ps sp) (gd : X.A.guards = some []) (hr : Room k X.A) (hg : Gl X x) (hm : X.mg x = some (.ref f)) (hk : PySem.W.keepIn X.K (.ref f) = true) (hb : Binds X.K fd ps []) (hx : Passes CX X E) (ha : PA X (a :: es) t)
    (hdb : (x == ("__debug__" : Str)) = false) (he : starEach (a :: es) X.env = (false, eval a X.env) :: starEach es X.env) (hpl : (backTo pos (starEach es X.env)).any (·.1) = false) :
    PE X (.Call (.Name x p) (a :: es) [] pos) (fun σ H Q => t σ H fun vs H1 => sp vs H1 Q E) := by
  constructor
  intro pins s σ H Q I h
  refine wpAny_Call_Name_kw (ld_glob I hg hm (PySem.W.callWith_K (h₀ := X.base) I.ok.mod.kin hk (thn (ha.run pos pins s σ H _ I h) ?_) he hpl) hdb)
  intro us s1 ⟨vs, H1, I1, rv, q⟩
  exact ⟨I1.kIn, run_fg F gd hr hb hx I1 rv q⟩
section
variable {P : Program} {w : World} {K : PySem.W.Frag} {mg : Str → Option Value} {base : Heap}
end
end M

namespace M
open PySem PySem.Spec PyProof.Rows L2

section
variable {K : PySem.W.Frag} {a : Addr} {tt : List Addr} {ob : Obj} {xs : List V} {h : Heap}
noncomputable def Hs (K : PySem.W.Frag) (a : Addr) (tt : List Addr) (ob : Obj) (xs : List V) : Hp := fun b => if b ∈ tt then some (.tbl #[]) else if b = a ∧ (K.lookup a).isNone = true then some (.frz ob (.lst xs)) else none
theorem hs_tab {b : Addr} (hb : b ∈ tt) : Hs K a tt ob xs b = some (.tbl #[]) := if_pos hb
theorem hs_cases (b : Addr) : Hs K a tt ob xs b = none ∨ (b ∈ tt ∧ Hs K a tt ob xs b = some (.tbl #[])) ∨ (b = a ∧ b ∉ tt ∧ K.lookup a = none ∧ Hs K a tt ob xs b = some (.frz ob (.lst xs))) := by
  by_cases h1 : b ∈ tt
  · exact .inr (.inl ⟨h1, if_pos h1⟩)
  · by_cases h2 : b = a ∧ (K.lookup a).isNone = true
    · exact .inr (.inr ⟨h2.1, h1, Option.isNone_iff_eq_none.mp h2.2, (if_neg h1).trans (if_pos h2)⟩)
    · exact .inl ((if_neg h1).trans (if_neg h2))
theorem hs_none (ht : ∀ b ∈ tt, h.get? b = some { cls := .none, data := .fields #[] }) (ha : h.get? a = some ob) {b : Addr} {o : Obj} (e : h.get? b = some o) (n1 : o.data ≠ .fields #[]) (n2 : o.data ≠ ob.data) : Hs K a tt ob xs b = none := by
  rcases hs_cases (K := K) (a := a) (tt := tt) (ob := ob) (xs := xs) b with z | ⟨hb, z⟩ | ⟨rfl, _, _, z⟩
  · exact z
  · cases e.symm.trans (ht b hb)
    exact absurd rfl n1
  · cases e.symm.trans ha
    exact absurd rfl n2
end
theorem law_g {P : Program} {w : World} {K : PySem.W.Frag} {mg mb : Str → Option Value} {k : Nat} {fa a : Addr} {cs : List (Addr × Addr)} {fd : FuncData} {x : Str} {sp : Sp} {s₁ : Shared} {vs : List Value} {ns : List Int}
    (KX : K.In s₁.heap) (hns : s₁.heap.Ns mainGlobals mg) (hb : s₁.heap.Ns builtinsNs mb) (hbb : ∀ x : Str, x ≠ "__name__" → mb x = bootBuiltins x) (hlim : s₁.heap.NoLimit) (hg : s₁.gens = #[])
    (hT : ∀ p ∈ cs, s₁.heap.get? p.2 = some { cls := .none, data := .fields #[] }) (nT : ∀ p ∈ cs, K.lookup p.2 = none) (C : ∀ p ∈ cs, PySem.W.CodeHd s₁.heap p.1 p.2)
    (hbm : ∃ (bm : Addr) (ob : Obj), mg "__builtins__" = some (.ref bm) ∧ bm ≠ builtinsNs ∧ s₁.heap.get? bm = some ob ∧ ob.cls = .type "module" ∧ ob.dict = some builtinsNs ∧ ob.data = .plain)
    (ha : s₁.heap.get? a = some { cls := .type "list", data := .seq vs.toArray }) (hi : IntsAre vs ns) (hl : ns.length ≤ sizeLine) (hr : Room k callerA)
    (F : ∀ base : Heap, K.In base → base.Ns mainGlobals mg → (∀ p ∈ cs, LamX.TabB base mg p.1 p.2) → FnG P w K mg base (L2.CX P w) k fa fd [x] sp) (hbind : ∀ (s : Shared) (u : Value), BindsTo s fd ⟨[u], []⟩ [(x, u)])
    (hsp : ∀ H : Hp, (∀ p ∈ cs, H p.2 = some (.tbl #[])) → SqL K H a (ns.map V.int) → sp [.ref a] H (fun v _ => v = .bl true) fun _ _ _ => False) :
    codeAny (model P w) callerA (.call (.ref fa) ⟨[.ref a], []⟩) (fun r s' => r = .ok (.ret (.bool true)) ∧ OldK s₁.heap s'.heap ∧ s'.os = s₁.os ∧ AllBare s'.gens) s₁ := by
  have rv := vals_ints hi
  have ln := hi.length
  have hl2 : vs.length ≤ sizeLine := by rw [ln]; exact hl
  let so : Obj := { cls := .type "list", data := .seq vs.toArray }
  let tt := cs.map (·.2)
  have isT : ∀ b ∈ tt, s₁.heap.get? b = some { cls := .none, data := .fields #[] } := fun b hb => by
    obtain ⟨p, hp, rfl⟩ := List.mem_map.mp hb
    exact hT p hp
  have kT : ∀ b ∈ tt, K.lookup b = none := fun b hb => by
    obtain ⟨p, hp, rfl⟩ := List.mem_map.mp hb
    exact nT p hp
  have inT : ∀ p ∈ cs, p.2 ∈ tt := fun p hp => List.mem_map.mpr ⟨p, hp, rfl⟩
  have aT : a ∉ tt := fun z => by
    have q := ha.symm.trans (isT a z)
    cases q
  let H := Hs K a tt so (ns.map V.int)
  have hc : ∀ b, H b = none ∨ (b ∈ tt ∧ H b = some (.tbl #[])) ∨ (b = a ∧ b ∉ tt ∧ K.lookup a = none ∧ H b = some (.frz so (.lst (ns.map V.int)))) := fun b => hs_cases b
  have free : ∀ {b : Addr} {o : Obj}, s₁.heap.get? b = some o → o.data ≠ .fields #[] → o.data ≠ .seq vs.toArray → H b = none := fun e n1 n2 => hs_none isT ha e n1 n2
  have hH : ∀ p ∈ cs, H p.2 = some (.tbl #[]) := fun p hp => hs_tab (inT p hp)
  have hok : HOk P w H s₁.heap := fun b u z => by
    rcases hc b with q | ⟨hb, q⟩ | ⟨rfl, _, _, q⟩
    · rw [q] at z; cases z
    · cases q.symm.trans z
      exact isT b hb
    · cases q.symm.trans z
      exact ⟨ha, by rw [List.length_map]; exact hl, vs, _, rv, ha⟩
  have hS : SqL K H a (ns.map V.int) := by
    rcases hc a with q | ⟨hb, _⟩ | ⟨_, _, _, q⟩
    · cases hk : K.lookup a with
      | none =>
        have e : H a = some (.frz so (.lst (ns.map V.int))) := (if_neg aT).trans (if_pos ⟨rfl, by rw [hk]; rfl⟩)
        rw [q] at e; cases e
      | some o =>
        cases ha.symm.trans (KX a o hk)
        exact .inr ⟨_, vs.toArray, _, hk, rfl, rfl, rfl, by rw [List.size_toArray]; exact hl2, by simpa using rv⟩
    · exact absurd hb aT
    · exact .inl (.inr ⟨_, q⟩)
  have down : ∀ {b : Addr} {o : Obj}, s₁.heap.get? b = some o → o.data ≠ .fields #[] → o.data ≠ .seq vs.toArray → (hidT s₁.heap H).get? b = some o := fun e n1 n2 => hidT_get e (free e n1 n2)
  have nsD : ∀ {b : Addr} {m : Str → Option Value}, s₁.heap.Ns b m → (hidT s₁.heap H).Ns b m := fun {b m} ⟨o, es, ep, e, d, q⟩ => ⟨o, es, ep, down e (by rw [d]; nofun) (by rw [d]; nofun), d, q⟩
  have kD : K.In (hidT s₁.heap H) := fun b o e => hidT_get (KX b o e) (by
    rcases hc b with q | ⟨hb, _⟩ | ⟨rfl, _, hk, _⟩
    · exact q
    · rw [kT b hb] at e; cases e
    · rw [hk] at e; cases e)
  obtain ⟨mc, l1, l2⟩ := hlim
  have md : L2.Mod K mg (hidT s₁.heap H) := { kin := kD, glob := nsD hns, blt := ⟨mb, nsD hb, hbb⟩, nolimit := ⟨mc, nsD l1, l2⟩ }
  obtain ⟨bm, om, b1, b2, b3, b4, b5, b6⟩ := hbm
  obtain ⟨og, eg, epg, g1, g2, _⟩ := id hns
  have tb : ∀ p ∈ cs, LamX.TabB (hidT s₁.heap H) mg p.1 p.2 := fun p hp => by
    constructor
    · obtain ⟨o, us, file, tf, fl, tg, inF, tx, tn, e1, r1, r2, r3, rest⟩ := C p hp
      refine ⟨o, us, file, tf, fl, tg, inF, tx, tn, down e1 (fun z => ?_) (fun z => ?_), r1, r2, r3, rest⟩
      · rw [r2] at z
        cases z
        simp at r3
      · rw [r2] at z
        cases z
    · refine ⟨bm, om, b1, b2, fun z => ?_, fun z => ?_, down b3 (by rw [b6]; nofun) (by rw [b6]; nofun), b4, b5, b6⟩
      · rw [z, g1] at b3
        cases b3
        rw [g2] at b6
        cases b6
      · rw [z, hT p hp] at b3
        cases b3
        cases b6
    · intro z
      rw [z, hT p hp] at g1
      cases g1
      cases g2
  have e0 : Env0 P w K mg (hidT s₁.heap H) callerA [] s₁ H := { frames := rfl, mod := md, bs := fun b o e => of_hidT e, bsz := Nat.le_of_eq (hidT_size _ _), funs := trivial, frf := (fun b hb => absurd (show b ∈ ([] : List Addr) from hb) (by simp)), hok := hok, bare := .of_eq hg }
  refine codeAny_mono ((F _ kD (nsD hns) tb).go callerA [] s₁ H ⟨[.ref a], []⟩ [.ref a] [.ref a] _ _ rfl hr e0 (hbind s₁ (.ref a)) (.cons rfl .nil) (hsp H hH hS)) fun res s2 z => ?_
  rcases res with e | fl
  · obtain ⟨_, _, _, _, _, _, _, _, _, _, _, _, q⟩ := z
    exact q.elim
  · cases fl with
    | next => exact False.elim z
    | brk => exact False.elim z
    | cont => exact False.elim z
    | ret u =>
      obtain ⟨v, H', hos, bare, un, hok', ru, rfl⟩ := z
      cases ru
      have more : ∀ b ∈ tt, ∃ ps : Array Value, s2.heap.get? b = some { cls := .none, data := .fields ps } := fun b hb => by
        obtain ⟨ps, q⟩ := un.tbls b #[] (hs_tab hb)
        exact ⟨_, hok' b _ q⟩
      have old : ∀ b o, b ∉ tt → s₁.heap.get? b = some o → s2.heap.get? b = some o := fun b o nb e => by
        rcases hc b with q | ⟨hb, _⟩ | ⟨rfl, _, _, q⟩
        · exact un.keep b o e q (by intro z; cases z) (by intro z; cases z)
        · exact absurd hb nb
        · have q2 := hok' b _ (un.frzs b so _ q)
          cases e.symm.trans ha
          exact q2.1
      refine ⟨rfl, ⟨fun b o e => ?_, fun b o e => ?_⟩, hos, bare⟩
      · by_cases hb : b ∈ tt
        · obtain ⟨ps, q⟩ := more b hb
          obtain ⟨p, hp, rfl⟩ := List.mem_map.mp hb
          cases e.symm.trans (hT p hp)
          exact .inr (.inl ⟨((C p hp).tab (hT p hp)).isCodeTable, rfl, #[], ps, rfl, by rw [Array.empty_append]; exact q⟩)
        · exact .inl (old b o hb e)
      · by_cases hb : b ∈ tt
        · obtain ⟨ps, q⟩ := more b hb
          exact ⟨_, q⟩
        · exact ⟨o, old b o hb e⟩
structure LawG (l : PySem.W.OpenLaw) (w : World) (K : PySem.W.Frag) (k n : Nat) (x : Str) (fa : Addr) (mg : Str → Option Value) (h : Heap) (fd : FuncData) (cs : List (Addr × Addr)) (sp : Sp) : Prop where
  empty : ∀ p ∈ cs, h.get? p.2 = some { cls := .none, data := .fields #[] }
  apart : ∀ p ∈ cs, K.lookup p.2 = none
  code : ∀ p ∈ cs, PySem.W.CodeHd h p.1 p.2
  bind : ∀ (s : Shared) (u : Value), BindsTo s fd ⟨[u], []⟩ [(x, u)]
  says : ∀ (H : Hp) (a : Addr) (ns : List Int), ns.length ≤ n → (∀ z ∈ ns, Builtin.Int.intBits z ≤ 1048576) → (∀ p ∈ cs, H p.2 = some (.tbl #[])) → SqL K H a (ns.map V.int) → sp [.ref a] H (fun v _ => v = .bl true) fun _ _ _ => False
  fn : ∀ base : Heap, K.In base → base.Ns mainGlobals mg → (∀ p ∈ cs, LamX.TabB base mg p.1 p.2) → FnG l.prog w K mg base (L2.CX l.prog w) k fa fd [x] sp
theorem walk_g {l : PySem.W.OpenLaw} {n k : Nat} {q : Program} {loose : List Str} {XP : (Str → Option Value) → Heap → Prop} {YP : World → Heap → Prop} {d : DefRec} {K : Params → PySem.W.Frag} {x : Str}
    (hn : l.most = some n) (hz : n ≤ sizeLine) (hdf : d.params.defaults = []) (hr : Room k callerA) (hY : ∀ (w : World) (h : Heap), YP w h → (K w.params).In h)
    (F : ∀ (w : World) (mg : Str → Option Value) (fa : Addr) (h : Heap), YP w h → (K w.params).In h → h.Ns mainGlobals mg → mg d.name = some (.ref fa) → ∃ fd cs sp, LawG l w (K w.params) k n x fa mg h fd cs sp) :
    PySem.W.WalkO q loose XP YP l.row.toRowW d [] (fun f vs => PySem.call f vs) := by
  refine Att.attach_callB hn hdf ?_
  intro w s₀ s₁ mg mb fa o pm cd doc a vs ns G Y ho hd hcd hmg hobj hints hlen hbits hg
  obtain ⟨fd, cs, sp, L⟩ := F w mg fa _ Y (hY w _ Y) G.T.g hmg
  exact law_g (hY w _ Y) G.T.g G.T.b G.T.builtins G.T.nolimit hg L.empty L.apart L.code G.T.bmain hobj hints (Nat.le_trans hlen hz) hr L.fn L.bind (fun H hH hS => L.says H a ns hlen hbits hH hS)
end M

namespace M
open PySem PySem.Spec PyProof.Rows L2
variable {X : Cx} {T : Tx} {W : WX} {a b c : Expr} {ma mb mc : ME} {mt mu : MT} {ms mv : MS} {pos : Pos} {st : Stmt} {rest sts : List Stmt}
variable {av av' : Av} {r r' r2 : List Addr} {H H' H2 : Hp} {m m' : Mem}

noncomputable def rReprD (X : Cx) : List V → Hp → VK → Prop := fun xs H Q => ∃ x d, xs = [x] ∧ Dp X.K H x d ∧ d.showable = true ∧ d.hasDict = false ∧ d.depth ≤ 60 ∧ d.shown.length ≤ sizeLine ∧ Q (.str d.shown) H
theorem call_reprD (gd : X.A.guards = some []) (hu : X.A.units + 64 < cLine) : CallR X (.builtin "repr") (rReprD X) := by
  intro pins s σ H xs us Q I rv h
  obtain ⟨x, d, rfl, dp, hs, hd, hz, hl, q⟩ := h
  obtain ⟨u, rfl, ru⟩ := rv.one
  obtain ⟨as, rd⟩ := Dp.reads I d x u dp ru
  have big : ∀ (p : Addr), Reads s.heap (.ref p) d as → wpAny (model X.prog X.w) X.A (call (.builtin "repr") [.ref p]) (EP X pins σ Q) X.xe s := fun p rd =>
    PySem.repr_of_reads' rd hs (fun e => by rw [hd] at e; cases e) gd (by omega) (fun _ _ e => e) (fun h' t tk k => ⟨.str d.shown, H, I.kept k, ⟨_, rfl⟩, q⟩) hl
  cases dp with
  | non => cases ru; exact PySem.P.repr_of_none ⟨.str _, H, I.tok _, ⟨_, rfl⟩, q⟩
  | bl b => cases ru; exact PySem.P.repr_of_bool ⟨.str _, H, I.tok _, ⟨_, rfl⟩, q⟩
  | int i => obtain ⟨t, rfl⟩ := ru; exact PySem.P.repr_of_int (of_decide_eq_true hs) ⟨.str _, H, I.tok _, ⟨_, rfl⟩, q⟩
  | str z => obtain ⟨t, rfl⟩ := ru; exact PySem.P.repr_of_str ⟨.str _, H, I.tok _, ⟨_, rfl⟩, q⟩ hl
  | tup _ _ => cases ru; exact big _ rd
  | lst _ _ => cases ru; exact big _ rd
noncomputable def fReprD : List PV → Mem → Option PV := fun xs m => match xs with
  | [x] => match datM m x with
    | some d => if d.showable && !d.hasDict && Nat.ble d.depth 60 && szOk d.shown.length then some (.str d.shown) else none
    | none => none
  | _ => none
theorem cm_reprD (hK : X.K = T.K) (gd : X.A.guards = some []) (hu : X.A.units + 64 < cLine) : ClM X T (.builtin "repr") fReprD := by
  refine ⟨_, call_reprD gd hu, fun {av r H m xs z vs Q} rm rv e k => ?_⟩
  unfold fReprD at e
  split at e
  · rename_i x
    split at e
    · rename_i d hd
      split at e
      · rename_i hc
        cases e
        simp only [Bool.and_eq_true, Bool.not_eq_true'] at hc
        obtain ⟨⟨⟨h1, h2⟩, h3⟩, h4⟩ := hc
        obtain ⟨v, rfl, hv⟩ := rvs1 rv
        exact ⟨v, d, rfl, datM_ok hK rm hv hd, h1, h2, Nat.le_of_ble_eq_true h3, szOk_le h4, k r H _ .refl rm rv_str⟩
      · cases e
    · cases e
  · cases e
end M

namespace M
open PySem PySem.Spec PyProof.Rows L2
variable {X : Cx} {T : Tx} {W : WX} {a b c : Expr} {ma mb mc : ME} {mt mu : MT} {ms mv : MS} {pos : Pos} {st : Stmt} {rest sts : List Stmt}
variable {av av' : Av} {r r' r2 : List Addr} {H H' H2 : Hp} {m m' : Mem} {tg iter : Expr}

noncomputable def mNo : ME := fun _ _ => .bad
theorem pe_no {e : Expr} : PE X e (fun _ _ _ => False) := ⟨fun _ _ _ _ _ _ h => h.elim⟩
theorem se_bad {e : Expr} : SE X T W e mNo := ⟨PE.imp pe_no fun σ H Q ⟨av, r, e, m, re, rm, h⟩ => h⟩

noncomputable def orC (f g : List PV → Mem → Option PV) : List PV → Mem → Option PV := fun xs m => match f xs m with
  | some z => some z
  | none => g xs m
theorem CallR.either {fv : Value} {r1 r2 : List V → Hp → VK → Prop} (h1 : CallR X fv r1) (h2 : CallR X fv r2) : CallR X fv (fun xs H Q => r1 xs H Q ∨ r2 xs H Q) := by
  intro pins s σ H xs us Q I rv h
  rcases h with h | h
  · exact h1 pins s σ H xs us Q I rv h
  · exact h2 pins s σ H xs us Q I rv h
theorem ClM.or {fv : Value} {f g : List PV → Mem → Option PV} (h : ClM X T fv f) (h' : ClM X T fv g) : ClM X T fv (orC f g) := by
  obtain ⟨r1, o1, k1⟩ := h
  obtain ⟨r2, o2, k2⟩ := h'
  refine ⟨_, M.CallR.either o1 o2, fun {av r H m xs z vs Q} rm rv e k => ?_⟩
  unfold orC at e
  split at e
  · rename_i z' hz
    exact .inl (k1 rm rv (hz.trans e) k)
  · exact .inr (k2 rm rv e k)

section
variable {C f : Addr} {fd : FuncData} {ps : List Str} {k : Nat} {sp : Sp}
theorem env0_in1 {P : Program} {w : World} {K : PySem.W.Frag} {mg : Str → Option Value} {base : Heap} {A : Around} {outer : List PySem.Env} {s : Shared} {H : Hp} (e : Env0 P w K mg base A outer s H) : Env0 P w K mg base A.in1 outer s H := ⟨e.frames, e.mod, e.bs, e.bsz, e.funs, e.frf, e.hok, e.bare⟩
theorem call_lenI (hf : Meth X.K C "__len__" f) (F : FnOk X.prog X.w X.K X.mg X.base (L2.CX X.prog X.w) k f fd ps sp) (hr : Room (k + 1) X.A) (hb : Binds X.K fd ps []) :
    CallR X (.builtin "len") (fun xs H Q => ∃ a dx fs, xs = [.ref a] ∧ H a = some (.ins C dx fs) ∧ sp [.ref a] H (fun v H' => ∃ n : Int, v = .int n ∧ 0 ≤ n ∧ n < 2 ^ 63 ∧ Q v H') (fun _ _ _ => False)) := by
  intro pins s σ H xs us Q I rv h
  obtain ⟨a, dx, fs, rfl, ha, h⟩ := h
  obtain ⟨u, rfl, ru⟩ := rv.one
  cases ru
  obtain ⟨mA, O, _, _, _, _⟩ := ins_get I.hok ha
  obtain ⟨od, J, _⟩ := O.look
  have hl : [V.ref a].length = ps.length := F.len _ _ _ _ h
  have hbt := hb s [.ref a] I.kIn (by rw [List.append_nil]; exact hl)
  rw [List.append_nil] at hbt
  refine Calls.call_function_entry kind_len plain_len entry_len (args_len1 _) ?_
  unfold Builtin.«len»
  refine wpAny_bind (m := oneArg "len" _) (wpAny_pure ?_)
  refine wpAny_bind (m := callSpecial? (.ref a) (Str.ofString "__len__")) (PySem.W.special_fn I.kIn J hf.at_ (beq_iff_eq.mp hf.fn) (wpAny_call (codeAny_mono (F.run X.A.in1 X.stack s H ⟨[.ref a], []⟩ [.ref a] [.ref a] _ _ hr.in1 (env0_in1 I.env0) hbt (.cons rfl .nil) h) fun res s' hq => ?_)))
  rcases res with e | fl
  · obtain ⟨_, _, _, _, _, _, _, _, _, _, _, _, q⟩ := hq
    exact q.elim
  · cases fl with
    | next => exact False.elim hq
    | brk => exact False.elim hq
    | cont => exact False.elim hq
    | ret u =>
      obtain ⟨v, H', J', rv', n, rfl, h0, h1, q⟩ := I.after hq
      obtain ⟨t, rfl⟩ := rv'
      refine wpAny_bind (wpAny_holding (wpAny_pure ?_))
      refine wpAny_bind (wpAny_letGo ?_)
      show wpAny _ _ (if n < 0 then _ else _) _ _ _
      rw [if_neg (by omega)]
      show wpAny _ _ (if n ≥ 2 ^ 63 then _ else _) _ _ _
      rw [if_neg (by omega)]
      exact wpAny_bind (wpAny_mkInt (wpAny_pure ⟨_, rfl, V.int n, H', J'.tok _, ⟨_, rfl⟩, q⟩))
end
section
variable {f : Addr} {fd : FuncData} {ps : List Str} {k cl : Nat} {mf : MF}
noncomputable def cLenI (cl : Nat) (mf : MF) : List PV → Mem → Option PV := fun xs m => match xs with
  | [x] => if isIns cl x m then match runP 1 mf [x] m with
      | .ok (.int n) _ => if decide (0 ≤ n) && decide (n < 1000000) then some (.int n) else none
      | _ => none
    else none
  | _ => none
theorem runP_same {n : Nat} {xs : List PV} {v : PV} (h : runP n mf xs m = .ok v m') : m' = m := by
  unfold runP at h
  repeat' split at h
  all_goals cases h
  rfl
theorem cm_lenI (hn : ("__len__" : Str) ∉ T.cN cl) (hf : Meth X.K (T.cA cl) "__len__" f) (F : FnOk X.prog X.w X.K X.mg X.base (L2.CX X.prog X.w) k f fd ps (spM T 1 mf)) (hr : Room (k + 1) X.A) (hb : Binds X.K fd ps []) : ClM X T (.builtin "len") (cLenI cl mf) := by
  refine ⟨_, call_lenI hf F hr hb, fun {av r H m xs z vs Q} rm rv e q => ?_⟩
  unfold cLenI at e
  split at e
  · rename_i x
    split at e
    · rename_i hi
      split at e
      · rename_i n m' hrun
        split at e
        · rename_i hb
          cases e
          rw [Bool.and_eq_true, decide_eq_true_eq, decide_eq_true_eq] at hb
          obtain ⟨v, rfl, hv⟩ := rvs1 rv
          obtain ⟨p, dx, fs, rfl, hA, _⟩ := isIns_ok hn rm hv hi
          refine ⟨p, dx, fs, rfl, hA, sp_callP rm rv ?_⟩
          rw [hrun]
          have em := runP_same hrun
          subst em
          exact fun r1 H1 w g rm1 rv1 => ⟨n, rv1.int', hb.1, by omega, q r1 H1 w g rm1 rv1⟩
        · cases e
      · cases e
    · cases e
  · cases e
end

noncomputable def mUn (f : PV → Option PV) (ma : ME) : ME := fun e m => (ma e m).bind fun x m1 => oP (f x) m1
noncomputable def fNeg : PV → Option PV
  | .int i => some (.int (-i))
  | _ => none
theorem se_neg (ha : SE X T W a ma) : SE X T W (.UnaryOp .USub a pos) (mUn fNeg ma) :=
  ⟨PE.imp (pe_un un_neg ha.pe) fun σ H Q ⟨av, r, e, m, re, rm, h⟩ =>
    ⟨av, r, e, m, re, rm, okR_imp (okR_bind h) fun x m1 h r1 H1 v g1 rm1 rv => by
      obtain ⟨z, hz, k⟩ := okR_oP h
      unfold fNeg at hz
      split at hz
      · rename_i i
        cases hz
        exact ⟨i, rv.int', k r1 H1 _ g1 rm1 rv_int⟩
      · cases hz⟩⟩
noncomputable def bitsLe (i j : Int) (n : Nat) : Bool := Nat.ble (i.natAbs.log2 + j.natAbs.log2) n
noncomputable def fMulW := fI (fun i j => bitsLe i j 900000) fun i j => .int (i * j)
theorem om_mulW : OpM X T (binaryOp .Mult) fMulW := opm_I op_mulW (fun i j h => Nat.lt_of_le_of_lt (Nat.le_of_ble_eq_true h) (by decide)) fun _ _ _ _ _ => rv_int
noncomputable def fDivW := fI (fun _ j => decide (0 < j) && Nat.ble j.natAbs.log2 8000) fun i j => .int (i / j)
theorem om_divW : OpM X T (binaryOp .FloorDiv) fDivW := opm_I op_fdivW (fun i j h => by
  rw [Bool.and_eq_true, decide_eq_true_eq] at h
  exact ⟨h.1, Nat.lt_of_le_of_lt (Nat.le_of_ble_eq_true h.2) (by decide)⟩) fun _ _ _ _ _ => rv_int
noncomputable def CPowX (i j : Int) : Prop := 0 ≤ j ∧ (Builtin.Int.intBits i : Int) * j ≤ 2 ^ 27
theorem op_powX : OpR X (binaryOp .Pow) (rI CPowX fun i j => .int (i ^ j.toNat)) := opI fun _ _ _ _ _ _ _ hc q => pow_int hc.1 hc.2 q
noncomputable def fPowX := fI (fun i j => decide (0 ≤ j) && decide (((i.natAbs.log2 + 1 : Nat) : Int) * j ≤ 2 ^ 20)) fun i j => .int (i ^ j.toNat)
theorem bits_le (i : Int) : Builtin.Int.intBits i ≤ i.natAbs.log2 + 1 := by
  unfold Builtin.Int.intBits
  split <;> omega
theorem om_powX : OpM X T (binaryOp .Pow) fPowX := opm_I op_powX (fun i j h => by
  rw [Bool.and_eq_true, decide_eq_true_eq, decide_eq_true_eq] at h
  refine ⟨h.1, Int.le_trans (Int.mul_le_mul_of_nonneg_right (Int.ofNat_le.mpr (bits_le i)) h.1) (Int.le_trans h.2 (by decide))⟩) fun _ _ _ _ _ => rv_int
noncomputable def fLtT : PV → PV → Mem → Option PV := fun x y _ => match x, y with
  | .tup xs, .tup ys => match intsOf xs, intsOf ys with
    | some ns, some ms => some (.bl (HT.lexLt ns ms))
    | _, _ => none
  | _, _ => none
theorem om_ltT (hK : X.K = T.K) (hu : X.A.units < cLine) : OpM X T (compareOp .Lt) fLtT := by
  refine ⟨_, op_ltT hu, fun {av r H m x y z v w Q} rm rv rw e k => ?_⟩
  unfold fLtT at e
  split at e
  · rename_i xs ys
    split at e
    · rename_i ns ms h1 h2
      cases e
      obtain ⟨p, vs, rfl, hp, hv⟩ := tup_ok hK rv
      obtain ⟨q, ws, rfl, hq, hw⟩ := tup_ok hK rw
      rw [intsOf_eq h1] at hv
      rw [intsOf_eq h2] at hw
      rw [rvs_ints hv] at hp
      rw [rvs_ints hw] at hq
      exact ⟨p, q, ns, ms, rfl, rfl, hp, hq, k r H _ .refl rm rv_bl⟩
    · cases e
  · cases e
end M

namespace M
open PySem PySem.Spec PyProof.Rows L2
variable {X : Cx} {T : Tx} {W : WX} {a b c : Expr} {ma mb mc : ME} {mt mu : MT} {ms mv : MS} {pos : Pos} {st : Stmt} {rest sts : List Stmt}
variable {av av' : Av} {r r' r2 : List Addr} {H H' H2 : Hp} {m m' : Mem} {tg iter : Expr}

section
variable {prog : Program} {w : World} {A : Around} {E : Value → Shared → Prop} {s : Shared}
theorem collect_seq {l : Addr} {o : Obj} {vs : List Value} {n : Nat} {Q : List Value → Shared → Prop} (ho : s.heap.get? l = some o) (hc : o.cls = .type "tuple") (hd : o.data = .seq vs.toArray n)
    (hz : vs.length ≤ sizeLine) (h : Q vs { s with heap := (s.heap.push (seqObj "list" #[] 0)).update s.heap.objs.size (Obj.mapSeq (· ++ vs.toArray)) }) : wpAny (model prog w) A (collect (.ref l)) Q E s := by
  unfold collect
  refine wpAny_bind (wpAny_runValue (codeAny_builtin entry_proto_collect' ?_))
  show wpAny _ _ (do again (.builtin "list.__iadd__" ⟨[← newList [], .ref l], []⟩)) _ _ s
  refine wpAny_bind (wpAny_newList (wpAny_pure ⟨Code.quiet_builtin _ (by decide +kernel), codeAny_builtin entry_list_iadd' ?_⟩))
  have k : (s.heap.push (seqObj "list" #[] 0)).get? l = some o := Heap.get?_push_of_some _ ho
  show wpAny _ _ (Builtin.List.listExtendWith (.ref s.heap.objs.size) (.ref l) (.ref s.heap.objs.size)) _ _ { s with heap := s.heap.push (seqObj "list" #[] 0) }
  unfold Builtin.List.listExtendWith
  refine wpAny_bind (wpAny_typeOf (T := "tuple") ⟨o, k, hc⟩ ?_)
  have ht : (Value.type "tuple" == Value.type "tuple") = true := by rfl
  rw [if_pos (by rw [ht]; simp)]
  refine wpAny_bind (listItems_at k hd (wpAny_bind (listItems_at (xs := #[]) (n := 0) (Heap.get?_push_size _ rfl) rfl ?_)))
  rw [if_neg (by simp)]
  refine wpAny_bind (listUpdate_at (xs := #[]) (n := 0) (Heap.get?_push_size _ rfl) rfl (wpAny_pure ?_) (Nat.zero_le _) (by simp only [Array.size_append, List.size_toArray, List.length_nil]; omega))
  show wpAny (model prog w) A (do
      let o ← load s.heap.objs.size
      match o.data with
      | .seq xs _ => pure xs.toList
      | _ => unsupported "internal:collect") Q E { s with heap := (s.heap.push (seqObj "list" #[] 0)).update s.heap.objs.size (Obj.mapSeq (· ++ vs.toArray)) }
  refine wpAny_bind (wpAny_load (get?_update_seq (Heap.get?_push_size _ rfl) _) ?_)
  show wpAny _ _ (pure ((#[] : Array Value) ++ vs.toArray).toList) Q E _
  have e : ((#[] : Array Value) ++ vs.toArray).toList = vs := by simp
  rw [e]
  exact wpAny_pure h
theorem sorted_tup {l : Addr} {o : Obj} {vs : List Value} {n : Nat} {lt : Value → Value → Bool} {Q : Value → Shared → Prop} (O : SrtO.Swo lt) (ho : s.heap.get? l = some o) (hc : o.cls = .type "tuple") (hd : o.data = .seq vs.toArray n) (hz : vs.length ≤ sizeLine)
    (hS : 2 ≤ vs.length → ∀ (h1 : Heap) (a : Addr), SrtO.SortableO prog w A.in1.in1 { s with heap := h1 } a vs lt)
    (h : ∀ out : List Value, SrtO.Srtd lt out → SrtO.Stb lt out vs → Q (.ref (s.heap.objs.size + 1)) { s with heap := sortedAll s.heap vs out.toArray }) : wpAny (model prog w) A (call (.builtin "sorted") [.ref l]) Q E s := by
  refine Calls.call_function_entry kind_sorted plain_sorted entry_sorted (args_sorted1 _) ?_
  unfold Builtin.«sorted»
  refine wpAny_bind (m := checkCount "sorted" 1 1 _) (wpAny_pure (wpAny_bind (collect_seq ho hc hd hz (wpAny_bind (wpAny_newList ?_ hz)))))
  have hsz : ((s.heap.push (seqObj "list" #[] 0)).update s.heap.objs.size (Obj.mapSeq (· ++ vs.toArray))).objs.size = s.heap.objs.size + 1 := (Heap.size_update _ _ _).trans (size_push' _ _)
  have hoL : (((s.heap.push (seqObj "list" #[] 0)).update s.heap.objs.size (Obj.mapSeq (· ++ vs.toArray))).push (seqObj "list" vs.toArray 0)).get? (s.heap.objs.size + 1) = some (seqObj "list" vs.toArray 0) := by
    rw [← hsz]
    exact Heap.get?_push_size _ rfl
  show wpAny _ _ _ _ _ { s with heap := ((s.heap.push (seqObj "list" #[] 0)).update s.heap.objs.size (Obj.mapSeq (· ++ vs.toArray))).push (seqObj "list" vs.toArray 0) }
  rw [hsz]
  exact wpAny_bind (wpAny_holding (wpAny_call_entry slot_list_sort ⟨_, hoL, rfl⟩ entry_list_sort (SrtO.list_sort_ord O hoL hz (fun h2 => hS h2 _ _) fun out hs hb => ⟨_, rfl, wpAny_pure ⟨_, rfl, h out hs hb⟩⟩) (args_list_sort _)))
end
theorem cr_sortedTI : CallR X (.builtin "sorted") (fun vs H Q => ∃ (a : Addr) (ns : List Int), vs = [V.ref a] ∧ SqT X.K H a (ns.map V.int) ∧ ∀ (ks : List Int) (p : Addr), ks.Perm ns → ks.Pairwise (· ≤ ·) → H p = none → Q (.ref p) (upd H p (.lst (ks.map V.int)))) := by
  intro pins s σ H vs us Q I rv h
  obtain ⟨a, ns, rfl, hs, q⟩ := h
  obtain ⟨its, ri, hl, hz⟩ := I.tuple hs
  obtain ⟨u, rfl, ru⟩ := rv.one
  cases ru
  have hi := ri.ints
  obtain ⟨o, ho, hc, n, hd⟩ := hl
  have hz2 : its.length ≤ sizeLine := by rw [← ri.length]; exact hz
  refine sorted_tup SrtO.swo_int ho hc hd hz2 (fun h2 h1 a' => SrtO.ints_sortable hi h2) fun out h1 h2 => ?_
  obtain ⟨k1, k2, k3⟩ := SrtO.ints_out hi h1 h2
  obtain ⟨ep, he⟩ := sortedAll_at s.heap its out.toArray
  have hn : ((out.map SrtO.iv).map V.int).length ≤ sizeLine := by
    rw [List.length_map, k2.length_eq, ← List.length_map (f := V.int)]
    exact hz
  exact ⟨.ref _, upd H (s.heap.objs.size + 1) (.lst ((out.map SrtO.iv).map V.int)), I.laid (t' := s.toks) (fun _ _ => sortedAll_old) (Nat.le_succ _) ⟨hn, out, ep, vals_of_ints k1, he⟩, rfl, q _ _ k2 k3 (I.hok.fresh (Nat.le_succ _))⟩
noncomputable def insI (x : Int) : List Int → List Int
  | [] => [x]
  | y :: ys => if x ≤ y then x :: y :: ys else y :: insI x ys
noncomputable def sortI : List Int → List Int
  | [] => []
  | x :: xs => insI x (sortI xs)
theorem insI_perm (x : Int) : ∀ ys : List Int, (insI x ys).Perm (x :: ys)
  | [] => .refl _
  | y :: ys => by
    unfold insI
    split
    · exact .refl _
    · exact ((insI_perm x ys).cons y).trans (.swap x y ys)
theorem sortI_perm : ∀ xs : List Int, (sortI xs).Perm xs
  | [] => .refl _
  | x :: xs => (insI_perm x _).trans ((sortI_perm xs).cons x)
theorem insI_up (x : Int) : ∀ {ys : List Int}, ys.Pairwise (· ≤ ·) → (insI x ys).Pairwise (· ≤ ·)
  | [], _ => by simp [insI]
  | y :: ys, h => by
    rw [List.pairwise_cons] at h
    unfold insI
    split
    · rename_i hx
      refine List.pairwise_cons.mpr ⟨fun z hz => ?_, List.pairwise_cons.mpr h⟩
      rcases List.mem_cons.mp hz with e | hz
      · rw [e]; exact hx
      · exact Int.le_trans hx (h.1 z hz)
    · rename_i hx
      refine List.pairwise_cons.mpr ⟨fun z hz => ?_, insI_up x h.2⟩
      rcases List.mem_cons.mp ((insI_perm x ys).mem_iff.mp hz) with e | hz
      · rw [e]; omega
      · exact h.1 z hz
theorem sortI_up : ∀ xs : List Int, (sortI xs).Pairwise (· ≤ ·)
  | [] => .nil
  | x :: xs => insI_up x (sortI_up xs)
theorem up_unique : ∀ {xs ys : List Int}, xs.Perm ys → xs.Pairwise (· ≤ ·) → ys.Pairwise (· ≤ ·) → xs = ys
  | [], ys, h, _, _ => (List.nil_perm.mp h).symm
  | x :: xs, [], h, _, _ => (List.perm_nil.mp h)
  | x :: xs, y :: ys, h, hx, hy => by
    rw [List.pairwise_cons] at hx hy
    have e : x = y := by
      rcases List.mem_cons.mp (h.mem_iff.mp List.mem_cons_self) with e | m
      · exact e
      · rcases List.mem_cons.mp (h.mem_iff.mpr List.mem_cons_self) with e | m2
        · exact e.symm
        · exact Int.le_antisymm (hx.1 y m2) (hy.1 x m)
    subst e
    rw [up_unique (List.Perm.cons_inv h) hx.2 hy.2]
theorem sortI_of {xs ys : List Int} (h : ys.Perm xs) (u : ys.Pairwise (· ≤ ·)) : ys = sortI xs := up_unique (h.trans (sortI_perm xs).symm) u (sortI_up xs)
noncomputable def cSortI : List PV → Mem → Option (List PV) := fun xs m => match xs with
  | [.tup ys] => match intsOf ys with
    | some ns => some ((sortI ns).map PV.int)
    | none => none
  | [x] => match lstOf x m with
    | some ys => match intsOf ys with
      | some ns => some ((sortI ns).map PV.int)
      | none => none
    | none => none
  | _ => none
theorem rvs_intsB : ∀ ns : List Int, RVs T av r H (ns.map PV.int) (ns.map V.int)
  | [] => by show RVs T av r H [] []; unfold RVs; rfl
  | n :: ns => by
    show RVs T av r H (PV.int n :: ns.map PV.int) (V.int n :: ns.map V.int)
    unfold RVs
    exact ⟨_, _, rfl, rv_int, rvs_intsB ns⟩
theorem cf_sortI (hK : X.K = T.K) : ClF X T (.builtin "sorted") cSortI := by
  refine ⟨_, M.CallR.either cr_sortedI cr_sortedTI, fun {av r H m xs z vs Q} rm rv e k => ?_⟩
  unfold cSortI at e
  split at e
  · rename_i ys
    split at e
    · rename_i ns hn
      cases e
      obtain ⟨v, rfl, hv⟩ := rvs1 rv
      obtain ⟨p, ws, rfl, hp, hw⟩ := tup_ok hK hv
      rw [intsOf_eq hn] at hw
      rw [rvs_ints hw] at hp
      refine .inr ⟨p, ns, rfl, hp, fun ks q hperm hup hq => ?_⟩
      rw [sortI_of hperm hup]
      exact kf_new rm hq (rvs_intsB _) k
    · cases e
  · rename_i x hx
    split at e
    · rename_i ys hy
      split at e
      · rename_i ns hn
        cases e
        obtain ⟨v, rfl, hv⟩ := rvs1 rv
        obtain ⟨p, ws, rfl, hp, hw⟩ := lstOf_ok rm hv hy
        rw [intsOf_eq hn] at hw
        rw [rvs_ints hw] at hp
        refine .inl ⟨p, ns, rfl, .inl hp, fun ks q hperm hup hq => ?_⟩
        rw [sortI_of hperm hup]
        exact kf_new rm hq (rvs_intsB _) k
      · cases e
    · cases e
  · cases e
end M

namespace M
open PySem PySem.Spec PyProof.Rows L2
variable {X : Cx} {T : Tx} {W : WX} {a b c : Expr} {ma mb mc : ME} {mt mu : MT} {ms mv : MS} {pos : Pos} {st : Stmt} {rest sts : List Stmt}
variable {av av' : Av} {r r' r2 : List Addr} {H H' H2 : Hp} {m m' : Mem} {tg iter : Expr}

theorem keepD {D : Addr} {vs : List V} (g : Grow r H r' H') (hl : H D = some (.lst vs)) (n : D ∉ r) : D ∉ r' ∧ H' D = some (.lst vs) := by
  obtain ⟨more, em, fm⟩ := g.ext
  refine ⟨fun hm => ?_, g.keep D _ hl n (fun ps z => by cases z)⟩
  rw [em] at hm
  rcases List.mem_append.mp hm with q | q
  · exact n q
  · exact fm D q ⟨_, hl, trivial⟩
section
variable {iter1 tg1 : Expr} {ifs ifs1 : List Expr} {scope : Scope} {own : List (Str × Nat)} {ts ts1 vs1 : List Nat} {mi mi1 : Env → Mem → Res MI} {mg mg1 : MG}
end

noncomputable def enI (xs : List PV) : MI := fun _ i => some (match xs[i]? with
  | some x => some (.tup [.int i, x])
  | none => none)
noncomputable def mIE (mr : MA) : Env → Mem → Res MI := fun e m => (mr e m).bind fun vs m1 => match vs with
  | [.lst xs] => .ok (enI xs) m1
  | _ => .bad
theorem iok_enum {xs : List PV} {v : V} (h : RV T av r H (.lst xs) v) : ∃ a vs, v = .ref a ∧ SqL X.K H a vs ∧ IOk T av r H (enI xs) (Ite X.K a) := by
  have h0 := h
  unfold RV at h
  obtain ⟨a, vs, rfl, o, ha, hv⟩ := h
  refine ⟨a, vs, rfl, .inl ha, fun av' r' H' m' i hw g rm => ?_⟩
  have h1 := (h0.widen hw).growA g
  unfold RV at h1
  obtain ⟨a', vs', e, o', ha', hv'⟩ := h1
  cases e
  unfold enI
  cases q : xs[i]? with
  | none => exact ⟨vs', .inl ha', by rw [hv'.length]; exact List.getElem?_eq_none_iff.mp q⟩
  | some x =>
    obtain ⟨w, hw', rw'⟩ := hv'.get q
    refine ⟨⟨vs', w, .inl ha', hw'⟩, fun v H2 y => ?_⟩
    obtain ⟨p, z, rfl, hp, rfl, hz⟩ := y
    have e : z = w := Option.some.inj ((hz vs' (.inl ha')).symm.trans hw')
    subst e
    refine ⟨r', grow_upd hp, (rm.pass hp), rv_newT rm hp ?_⟩
    unfold RVs
    exact ⟨_, _, rfl, rv_int, by unfold RVs; exact ⟨_, [], rfl, rw', by unfold RVs; rfl⟩⟩
theorem si_enum {mr : MA} {elts : List Expr} {kk : Nat} {p tpos : Pos} (hg : Gl X "enumerate") (hm : X.mg "enumerate" = none) (ha : SA X T W [a] mr) (hs : starEach [a] X.env = [(false, eval a X.env)] := by rfl) : SI X T W (.Tuple elts kk tpos) (.Call (.Name "enumerate" p) [a] [] pos) (mIE mr) :=
  ⟨PI.imp (pi_enum hg hm ha.pa hs) fun σ H R ⟨av, r, e, m, re, rm, h⟩ => ⟨av, r, e, m, re, rm, okR_imp (okR_bind h) fun vs m1 h r1 H1 ws g1 rm1 rv => by
    split at h
    · obtain ⟨v, rfl, hv⟩ := rvs1 rv
      obtain ⟨p, us, rfl, hp, iok⟩ := iok_enum (X := X) hv
      exact ⟨p, us, rfl, hp, h r1 H1 _ g1 rm1 iok⟩
    · exact h.elim⟩⟩

theorem RVs.rep {xs : List PV} {vs : List V} (h : RVs T av r H xs vs) : ∀ n : Nat, RVs T av r H (List.replicate n xs).flatten (List.replicate n vs).flatten
  | 0 => by show RVs T av r H [] []; unfold RVs; rfl
  | n + 1 => by
    rw [List.replicate_succ, List.replicate_succ, List.flatten_cons, List.flatten_cons]
    exact h.append (RVs.rep h n)
theorem RX.near {p : Addr} {c : Nat} {ws : List PV} {cls : Value} {d : Option Addr} (h : RX T (Avp av p) r H c ws cls d) : RX T av r H c ws cls d :=
  ⟨h.1, h.2.imp id fun ⟨dx, fs, e1, o, e2, e3, e4⟩ => ⟨dx, fs, e1, ⟨fun z => o.1 (.inl z), o.2⟩, e2, e3, e4.near⟩⟩
theorem okR_near {Wr : Value → Option Addr → Hp → Prop} {s : Type} {K : s → Mem → Prop} {p : Addr} : ∀ {x : Res s}, okR T av r H Wr K x → okR T (Avp av p) r H Wr K x
  | .ok _ _, h => h
  | .exc _ _ _, h => fun r2 H2 c d g rm rx => h r2 H2 c d g rm.near (M.RX.near rx)
  | .bad, h => h
noncomputable def mRepF (ma : MA) (mb : ME) : MA := fun e m => (ma e m).bind fun xs m1 => (mb e m1).bind fun y m2 => match y with
  | .int k => if big62 k && szOk (xs.length * k.toNat) then .ok (List.replicate k.toNat xs).flatten m2 else .bad
  | _ => .bad
theorem sf_rep {ma : MA} (ha : SF X T W a ma) (hb : SE X T W b mb) : SF X T W (.BinOp a .Mult b pos) (mRepF ma mb) :=
  ⟨PE.imp (pe_op op_rep ha.pe hb.pe) fun σ H Q ⟨av, r, e, m, re, rm, h⟩ =>
    ⟨av, r, e, m, re, rm, okR_imp (okR_bind h) fun xs m1 h r1 H1 p vs g1 np pr hl rm1 rvs => by
      have hw : ∀ a, Avp av p a → av a ∨ ¬ Hard H a := fun a z => z.elim .inl fun z => .inr (by rw [z]; exact np)
      have re1 : RE T (Avp av p) r1 H1 e σ := RE.map (fun x v q => (q.widen hw).grow g1) re
      refine ⟨Avp av p, r1, e, m1, re1, rm1, okR_near (okR_grow g1 (fun y m2 h => ?_) (okR_bind h))⟩
      intro r2 H2 w g2 rm2 rw
      have g12 := g1.trans g2
      split at h
      · rename_i k
        split at h
        · rename_i hk
          rw [Bool.and_eq_true] at hk
          obtain ⟨b1, b2⟩ := big62_ok hk.1
          obtain ⟨nr2, hl2⟩ := keepD g2 hl pr
          refine ⟨p, k, vs, rfl, rw.int', hl2, by omega, by omega, by rw [rvs.length]; exact szOk_le hk.2, fun q hq => ?_⟩
          have rmn := rm2.near
          exact h r2 _ q _ (g12.trans (grow_upd hq)) (g12.none (soft hq)) (rmn.fresh hq) upd_same (rmn.away hq) ((RVs.rep (rvs.grow g2) k.toNat).near.away hq)
        · exact h.elim
      · exact h.elim⟩⟩
end M

namespace M
open PySem PySem.Spec PyProof.Rows L2
variable {X : Cx} {T : Tx} {W : WX} {a b c : Expr} {ma mb mc : ME} {mt mu : MT} {ms mv : MS} {pos : Pos} {st : Stmt} {rest sts : List Stmt}
variable {av av' : Av} {r r' r2 : List Addr} {H H' H2 : Hp} {m m' : Mem} {tg iter : Expr}

noncomputable def keyOf : PV → Option Key
  | .int i => some (.inl i)
  | .str s => some (.inr s)
  | _ => none
noncomputable def eqKey : PV → Key → Bool
  | .int i, .inl j => i == j
  | .str s, .inr t => s == t
  | _, _ => false
theorem eqKey_ok (a k : Key) : eqKey (keyP a) k = decide (a = k) := by
  cases a with
  | inl i =>
    cases k with
    | inl j => show (i == j) = _; rw [Bool.eq_iff_iff]; simp
    | inr t => show false = _; simp
  | inr s =>
    cases k with
    | inl j => show false = _; simp
    | inr t => show (s == t) = _; rw [Bool.eq_iff_iff]; simp
noncomputable def hasK (k : Key) (ks : List PV) : Bool := ks.any fun p => eqKey p k
noncomputable def putW (k : Key) (v : PV) : List PV → List PV → List PV
  | p :: ks, w :: ws => (if eqKey p k then v else w) :: putW k v ks ws
  | _, ws => ws
noncomputable def putP (ks ws : List PV) (k : Key) (v : PV) : List PV × List PV := if hasK k ks then (ks, putW k v ks ws) else (ks ++ [keyP k], ws ++ [v])
noncomputable def getP (k : Key) : List PV → List PV → Option PV
  | p :: ks, w :: ws => if eqKey p k then some w else getP k ks ws
  | _, _ => none
noncomputable abbrev ksOf (kvs : List (Key × V)) : List PV := kvs.map fun kv => keyP kv.1
theorem hasK_ok (kvs : List (Key × V)) (k : Key) : hasK k (ksOf kvs) = kvs.any fun kv => decide (kv.1 = k) := by
  unfold hasK ksOf
  rw [List.any_map]
  congr 1
  funext kv
  exact eqKey_ok kv.1 k
theorem putK_ok {k : Key} {v : PV} {z : V} (hz : RV T av r H v z) {kvs : List (Key × V)} {ws : List PV} (h : RVs T av r H ws (kvs.map (·.2))) :
    ksOf (putK kvs k z) = (putP (ksOf kvs) ws k v).1 ∧ RVs T av r H (putP (ksOf kvs) ws k v).2 ((putK kvs k z).map (·.2)) := by
  unfold putK putP
  rw [hasK_ok]
  by_cases q : (kvs.any fun kv => decide (kv.1 = k)) = true
  · rw [if_pos q, if_pos q]
    clear q
    constructor
    · show List.map _ (List.map _ kvs) = _
      rw [List.map_map]
      refine List.map_congr_left fun kv _ => ?_
      show keyP (if kv.1 = k then (kv.1, z) else kv).1 = keyP kv.1
      split <;> rfl
    · show RVs T av r H (putW k v (ksOf kvs) ws) _
      induction kvs generalizing ws with
      | nil =>
        unfold RVs at h
        cases ws with
        | nil => exact h
        | cons _ _ => obtain ⟨_, _, e, _⟩ := h; cases e
      | cons kv kvs ih =>
        cases ws with
        | nil => unfold RVs at h; cases h
        | cons w ws =>
          unfold RVs at h
          obtain ⟨y, ys, e, h1, h2⟩ := h
          cases e
          show RVs T av r H ((if eqKey (keyP kv.1) k then v else w) :: putW k v (ksOf kvs) ws) _
          rw [eqKey_ok]
          unfold RVs
          refine ⟨_, _, rfl, ?_, ih h2⟩
          by_cases q : kv.1 = k
          · rw [if_pos (decide_eq_true q)]
            show RV T av r H v (if kv.1 = k then (kv.1, z) else kv).2
            rw [if_pos q]; exact hz
          · rw [if_neg (by simpa using q)]
            show RV T av r H w (if kv.1 = k then (kv.1, z) else kv).2
            rw [if_neg q]; exact h1
  · rw [if_neg q, if_neg q]
    constructor
    · show List.map _ (kvs ++ [(k, z)]) = _
      rw [List.map_append]; rfl
    · rw [List.map_append]
      exact h.append (by unfold RVs; exact ⟨z, [], rfl, hz, by unfold RVs; rfl⟩)
theorem getP_ok {k : Key} : ∀ {kvs : List (Key × V)} {ws : List PV}, RVs T av r H ws (kvs.map (·.2)) → match getP k (ksOf kvs) ws with
    | some w => ∃ z, valV kvs k = some z ∧ RV T av r H w z
    | none => valV kvs k = none
  | [], ws, h => by cases ws <;> exact rfl
  | kv :: kvs, [], h => by unfold RVs at h; cases h
  | kv :: kvs, w :: ws, h => by
    unfold RVs at h
    obtain ⟨y, ys, e, h1, h2⟩ := h
    cases e
    show match (if eqKey (keyP kv.1) k then some w else getP k (ksOf kvs) ws) with
      | some w => ∃ z, valV (kv :: kvs) k = some z ∧ RV T av r H w z
      | none => valV (kv :: kvs) k = none
    rw [eqKey_ok]
    by_cases q : kv.1 = k
    · rw [if_pos (decide_eq_true q)]
      refine ⟨kv.2, ?_, h1⟩
      unfold valV
      rw [List.find?_cons_of_pos (by simpa using q)]; rfl
    · rw [if_neg (by simpa using q)]
      have e : valV (kv :: kvs) k = valV kvs k := by
        unfold valV
        rw [List.find?_cons_of_neg (by simpa using q)]
      rw [e]
      exact getP_ok h2

noncomputable def KD (T : Tx) (av : Av) (r : List Addr) (H : Hp) (Q : VK) (d : List PV × List PV) (m' : Mem) : Prop := ∀ r' H' p kvs, Grow r H r' H' → ¬ Hard H p → p ∉ r' → H' p = some (.dK kvs) → ksOf kvs = d.1 → RM T (Avp av p) r' H' m' → RVs T (Avp av p) r' H' d.2 (kvs.map (·.2)) → Q (.ref p) H'
noncomputable abbrev MD := Env → Mem → Res (List PV × List PV)
noncomputable def tD (T : Tx) (W : WX) (md : MD) : TE := fun σ H Q => ∃ av r e m, RE T av r H e σ ∧ RM T av r H m ∧ okR T av r H (fun c d H' => W c d σ H') (KD T av r H Q) (md e m)
structure SD (X : Cx) (T : Tx) (W : WX) (e : Expr) (md : MD) : Prop where pe : PE X e (tD T W md)
noncomputable def mD (md : MD) : ME := fun e m => (md e m).bind fun d m1 => .ok (.dct d.1 d.2) m1
theorem rv_dct {p : Addr} {kvs : List (Key × V)} {ks ws : List PV} (o : Out av r p) (hl : H p = some (.dK kvs)) (hk : ksOf kvs = ks) (hv : RVs T av r H ws (kvs.map (·.2))) : RV T av r H (.dct ks ws) (.ref p) := by
  unfold RV
  exact ⟨p, _, rfl, o, .inl ⟨kvs, .inl hl, hk.symm, rfl⟩, hv⟩
theorem se_dct {md : MD} (ha : SD X T W a md) : SE X T W a (mD md) :=
  ⟨PE.imp ha.pe fun σ H Q ⟨av, r, e, m, re, rm, h⟩ =>
    ⟨av, r, e, m, re, rm, okR_imp (okR_bind h) fun d m1 h r1 H1 p kvs g1 hp np hl hk rm1 rvs =>
      h r1 H1 (.ref p) g1 rm1.near (rv_dct ⟨rm.freshB hp, np⟩ hl hk rvs.near)⟩⟩
theorem keyOf_ok {y : PV} {k : Key} {v : V} (h : keyOf y = some k) (rv : RV T av r H y v) : v = kV k := by
  unfold keyOf at h
  split at h
  · cases h; exact rv.int'
  · cases h; exact rv.str'
  · cases h
end M

namespace M
open PySem PySem.Spec PyProof.Rows L2
variable {X : Cx} {T : Tx} {W : WX} {a b c : Expr} {ma mb mc : ME} {mt mu : MT} {ms mv : MS} {pos : Pos} {st : Stmt} {rest sts : List Stmt}
variable {av av' : Av} {r r' r2 : List Addr} {H H' H2 : Hp} {m m' : Mem} {tg iter : Expr}
section
variable {kx : Expr} {ifs : List Expr} {scope : Scope} {own : List (Str × Nat)} {ts : List Nat} {mi : Env → Mem → Res MI} {mg : MG} {mk : ME}
end

noncomputable def dctOf : PV → Mem → Option (List PV × List PV)
  | .dct ks ws, _ => some (ks, ws)
  | .ref i, m => match m[i]? with
    | some (.dct ks ws) => some (ks, ws)
    | _ => none
  | _, _ => none
noncomputable def flatKs (ks : List PV) : Bool := ks.all fun k => (keyOf k).isSome
theorem dk_flat {a : Addr} {ks : List PV} {vs : List V} (h : DK H a ks vs) (hf : flatKs ks = true) : ∃ kvs : List (Key × V), Rd H a (.dK kvs) ∧ ks = ksOf kvs ∧ vs = kvs.map (·.2) := by
  rcases h with h | ⟨kvs, h1, h2, h3, hne⟩
  · exact h
  · exfalso
    cases kvs with
    | nil => exact hne rfl
    | cons kv kvs =>
      rw [h2] at hf
      unfold flatKs at hf
      rw [List.map_cons, List.all_cons, Bool.and_eq_true] at hf
      have q := hf.1
      unfold keyOf at q
      cases q
theorem dctOf_ok {x : PV} {v : V} {ks ws : List PV} (rm : RM T av r H m) (rv : RV T av r H x v) (h : dctOf x m = some (ks, ws)) : ∃ a vs, v = .ref a ∧ DK H a ks vs ∧ RVs T av r H ws vs := by
  unfold dctOf at h
  split at h
  · cases h
    unfold RV at rv
    obtain ⟨a, vs, rfl, _, d, hv⟩ := rv
    exact ⟨a, vs, rfl, d, hv⟩
  · split at h
    · rename_i i m ks' ws' hx
      cases h
      unfold RV at rv
      obtain ⟨a, h1, rfl⟩ := rv
      obtain ⟨vs, h2, h3⟩ := rm.ob _ _ a hx h1
      exact ⟨a, vs, rfl, h2.dk, h3⟩
    · cases h
  · cases h
noncomputable def lookP (x y : PV) (m : Mem) : Option (Option PV) := match dctOf x m, keyOf y with
  | some (ks, ws), some k => if flatKs ks then some (getP k ks ws) else none
  | _, _ => none
noncomputable def OptV (T : Tx) (av : Av) (r : List Addr) (H : Hp) : Option PV → Option V → Prop
  | some u, z => ∃ q, z = some q ∧ RV T av r H u q
  | none, z => z = none
theorem lookP_ok {x y : PV} {v w : V} {o : Option PV} (rm : RM T av r H m) (rv : RV T av r H x v) (rw : RV T av r H y w) (h : lookP x y m = some o) : ∃ a z, v = .ref a ∧ DGet H a w z ∧ OptV T av r H o z := by
  unfold lookP at h
  split at h
  · rename_i ks ws k hd hk
    split at h
    · rename_i hf
      obtain ⟨a, vs, rfl, d, hv⟩ := dctOf_ok rm rv hd
      obtain ⟨kvs, h1, h2, h3⟩ := dk_flat d hf
      subst h2 h3
      refine ⟨a, valV kvs k, rfl, .inl ⟨kvs, k, h1, keyOf_ok hk rw, rfl⟩, ?_⟩
      have q := getP_ok (k := k) hv
      rw [← Option.some.inj h]
      cases hu : getP k (ksOf kvs) ws with
      | none => rw [hu] at q; exact q
      | some u => rw [hu] at q; exact q
    · cases h
  · cases h
noncomputable def mIn (neg : Bool) (ma mb : ME) : ME := fun e m => (ma e m).bind fun y m1 => (mb e m1).bind fun x m2 => match lookP x y m2 with
  | some o => .ok (.bl (if neg then !o.isSome else o.isSome)) m2
  | none => .bad
theorem optV_some {o : Option PV} {z : Option V} (h : OptV T av r H o z) : z.isSome = o.isSome := by
  cases o with
  | none => have q : z = none := h; rw [q]; rfl
  | some u => obtain ⟨q, e, _⟩ := h; rw [e]; rfl
theorem se_inD (hu : X.A.units + 1 < cLine) (ha : SE X T W a ma) (hb : SE X T W b mb) (hm : behindInMarks .In b = false) : SE X T W (.Compare a [.In] [b] pos) (mIn false ma mb) :=
  ⟨PE.imp (pe_cmp (pc_din hu ha.pe hb.pe) hm) fun σ H Q ⟨av, r, e, m, re, rm, h⟩ =>
    ⟨av, r, e, m, re, rm, okR_imp (okR_bind h) fun y m1 h r1 H1 w g1 rm1 rw => ⟨av, r1, e, m1, re.grow g1, rm1, okR_grow g1 (fun x m2 h r2 H2 v g2 rm2 rv => by
      split at h
      · rename_i o ho
        obtain ⟨a, z, rfl, hg, hz⟩ := lookP_ok rm2 rv (rw.grow g2) ho
        refine ⟨a, z, rfl, hg, ?_⟩
        rw [optV_some hz]
        exact h r2 H2 _ (g1.trans g2) rm2 rv_bl
      · exact h.elim) (okR_bind h)⟩⟩⟩
noncomputable def mGet (ma mb : ME) : ME := fun e m => (ma e m).bind fun x m1 => (mb e m1).bind fun y m2 => match lookP x y m2 with
  | some (some w) => .ok w m2
  | _ => .bad
theorem se_get (hu : X.A.units + 1 < cLine) (ha : SE X T W a ma) (hb : SE X T W b mb) (hs : NoSl b) : SE X T W (.Subscript a b pos) (mGet ma mb) :=
  ⟨PE.imp (pe_dget hu ha.pe hb.pe hs) fun σ H Q ⟨av, r, e, m, re, rm, h⟩ =>
    ⟨av, r, e, m, re, rm, okR_imp (okR_bind h) fun x m1 h r1 H1 v g1 rm1 rv => ⟨av, r1, e, m1, re.grow g1, rm1, okR_grow g1 (fun y m2 h r2 H2 w g2 rm2 rw => by
      split at h
      · rename_i u hu
        obtain ⟨a, z, rfl, hg, q, rfl, hq⟩ := lookP_ok rm2 (rv.grow g2) rw hu
        exact ⟨a, q, rfl, hg, h r2 H2 _ (g1.trans g2) rm2 hq⟩
      · exact h.elim) (okR_bind h)⟩⟩⟩
noncomputable def wrD (x o y : PV) (m : Mem) : Option Mem := match o, keyOf y with
  | .ref j, some k => match m[j]? with
    | some (.dct ks ws) => if flatKs ks && szOk ks.length then some (m.set j (.dct (putP ks ws k x).1 (putP ks ws k x).2)) else none
    | _ => none
  | _, _ => none
theorem wrD_ok {x o y : PV} {v u w : V} (rm : RM T av r H m) (rx : RV T av r H x v) (ro : RV T av r H o u) (ry : RV T av r H y w) (h : wrD x o y m = some m') : ∃ p H3, u = .ref p ∧ DPut H p w v H3 ∧ Grow r H r H3 ∧ RM T av r H3 m' := by
  unfold wrD at h
  split at h
  · rename_i j k hk
    split at h
    · rename_i ks ws hx
      split at h
      · rename_i hc
        cases h
        rw [Bool.and_eq_true] at hc
        unfold RV at ro
        obtain ⟨p, h1, rfl⟩ := ro
        obtain ⟨vs, h2, h3⟩ := rm.ob j _ p hx h1
        have hp : p ∈ r := List.mem_of_getElem? h1
        rcases h2 with ⟨kvs, d, e1, e2⟩ | ⟨kvs, d, e1, e2, ne⟩
        · subst e1 e2
          have hz : kvs.length < sizeLine := by
            have q := hc.2
            rw [List.length_map] at q
            exact szOk_lt q
          obtain ⟨q1, q2⟩ := putK_ok (k := k) rx h3
          refine ⟨p, _, rfl, .inl ⟨kvs, k, d, keyOf_ok hk ry, hz, rfl⟩, grow_write hp, rm.write h1 (by first | (rw [hl]; trivial) | (rw [hA]; trivial) | (rw [d]; trivial)) ⟨_, .inl ⟨_, upd_same, q1.symm, rfl⟩, q2.out (out_mem hp)⟩⟩
        · exfalso
          cases kvs with
          | nil => exact ne rfl
          | cons kv kvs =>
            have q := hc.1
            rw [e1] at q
            unfold flatKs at q
            rw [List.map_cons, List.all_cons, Bool.and_eq_true] at q
            have q := q.1
            unfold keyOf at q
            cases q
      · cases h
    · cases h
  · cases h
noncomputable def mPut (md mi mv : ME) : MS := fun e m => sB (mv e m) e fun x m1 => sB (md e m1) e fun o m2 => sB (mi e m2) e fun y m3 => match wrD x o y m3 with
  | some m4 => .nx e m4
  | none => .bad
theorem ss_put {pos' : Pos} {mv : ME} (hu : X.A.units + 1 < cLine) (ho : SE X T W a ma) (hi : SE X T W b mb) (hv : SE X T W c mv) (hs : swapsWith c (some (.Subscript a b pos')) pos.line X.env = pure false := by rfl) : SS X T W (.Assign [.Subscript a b pos'] c pos) (mPut ma mb mv) :=
  ⟨PS.imp (ps_dput hu ho.pe hi.pe hv.pe hs) fun D σ H ⟨av, r, e, m, re, rm, h⟩ => ⟨av, r, e, m, re, rm, okR_imp (okS_sB re h) fun x m1 h r1 H1 v g1 rm1 rx =>
    ⟨av, r1, e, m1, re.grow g1, rm1, okR_imp (okS_sB (re.grow g1) (h.grow g1)) fun o m2 h r2 H2 u g2 rm2 ro =>
      ⟨av, r2, e, m2, (re.grow g1).grow g2, rm2, okR_imp (okS_sB ((re.grow g1).grow g2) (h.grow g2)) fun y m3 h r3 H3 w g3 rm3 ry => by
        split at h
        · rename_i m4 hw
          obtain ⟨p, H4, rfl, hd, g4, rm4⟩ := wrD_ok rm3 (rx.grow (g2.trans g3)) (ro.grow g3) ry hw
          exact ⟨p, H4, rfl, hd, h r3 H4 σ (g3.trans g4) rm4 (((re.grow g1).grow g2).grow (g3.trans g4))⟩
        · exact h.elim⟩⟩⟩⟩
end M

namespace M
open PySem PySem.Spec PyProof.Rows L2
variable {X : Cx} {T : Tx} {W : WX} {a b c : Expr} {ma mb mc : ME} {mt mu : MT} {ms mv : MS} {pos : Pos} {st : Stmt} {rest sts : List Stmt}
variable {av av' : Av} {r r' r2 : List Addr} {H H' H2 : Hp} {m m' : Mem} {tg iter : Expr}
noncomputable def mDnil : MD := fun _ m => .ok ([], []) m
theorem sd_nil : SD X T W (.Dict [] [] pos) mDnil :=
  ⟨PE.imp pe_dnewK fun σ H Q ⟨av, r, e, m, re, rm, h⟩ p hp => h r _ p [] (grow_upd hp) (soft hp) (rm.fresh hp) upd_same rfl (rm.away hp) (by show RVs T _ _ _ [] []; unfold RVs; rfl)⟩
noncomputable abbrev Tb := List (Nat × Nat × MF)
noncomputable def tbGet (k : Nat) : Tb → Option (Nat × MF)
  | [] => none
  | (k', n, mf) :: l => if k' == k then some (n, mf) else tbGet k l
noncomputable def mCallV (i : Nat) (tb : Tb) (mr : MA) : ME := fun e m => match e[i]? with
  | some (some (.glo k)) => match tbGet k tb with
    | some (n, mf) => (mr e m).bind fun xs m1 => runP n mf xs m1
    | none => .bad
  | _ => .bad
noncomputable def TbOk (X : Cx) (T : Tx) (k : Nat) (tb : Tb) : Prop := ∀ j n mf, tbGet j tb = some (n, mf) → ∃ (f : Addr) (fd : FuncData) (ps : List Str), T.g j = .ref f ∧ FnOk X.prog X.w X.K X.mg X.base (L2.CX X.prog X.w) k f fd ps (spM T n mf) ∧ PySem.W.keepIn X.K (.ref f) = true ∧ Binds X.K fd ps []
theorem tb_nil {k : Nat} : TbOk X T k [] := fun j n mf h => by cases h
theorem tb_cons {k j n : Nat} {mf : MF} {tb : Tb} {f : Addr} {fd : FuncData} {ps : List Str} (hg : T.g j = .ref f) (F : FnOk X.prog X.w X.K X.mg X.base (L2.CX X.prog X.w) k f fd ps (spM T n mf)) (hk : PySem.W.keepIn X.K (.ref f) = true) (hb : Binds X.K fd ps []) (h : TbOk X T k tb) : TbOk X T k ((j, n, mf) :: tb) := by
  intro j' n' mf' h'
  unfold tbGet at h'
  split at h'
  · rename_i e
    cases h'
    have q := eq_of_beq e
    subst q
    exact ⟨f, fd, ps, hg, F, hk, hb⟩
  · exact h j' n' mf' h'
theorem se_callV {k i : Nat} {x : Str} {p : Pos} {es : List Expr} {mr : MA} {E : XK} {tb : Tb} (D : TbOk X T k tb) (hr : Room k X.A) (hN : X.N[i]? = some x) (hv : Vis X.env.scope x) (tk : Takes X (WN E)) (ha : SA X T (WN E) (a :: es) mr)
    (hd : (x == ("__debug__" : Str)) = false := by decide) (hcd : (x == ("__classdict__" : Str)) = false := by decide) (he : starEach (a :: es) X.env = (false, eval a X.env) :: starEach es X.env := by rfl) (hpl : (backTo pos (starEach es X.env)).any (·.1) = false := by rfl) :
    SE X T (WN E) (.Call (.Name x p) (a :: es) [] pos) (mCallV i tb mr) := by
  refine ⟨⟨fun pins s σ H Q I ⟨av, r, e, m, re, rm, h⟩ => ?_⟩⟩
  unfold mCallV at h
  split at h
  · rename_i k' hk'
    split at h
    · rename_i n mf hg
      obtain ⟨f, fd, ps, hf, F, hkp, hb⟩ := D _ _ _ hg
      obtain ⟨w, hw, rw⟩ := re.get hk'
      unfold RV at rw
      rw [rw, hf] at hw
      refine (pe_callL F hr hN hv hkp hb .nil (passes_call tk (fun _ _ _ _ h => h)) ha.pa hd hcd he hpl).run pins s σ H Q I ⟨hw, av, r, e, m, re, rm, okR_imp (okR_bind h) fun xs m1 h r1 H1 vs g1 rm1 rv1 => ?_⟩
      show spM T n mf (vs ++ []) H1 Q E
      rw [List.append_nil]
      exact sp_callP rm1 rv1 (okR_grow g1 (fun _ _ q => KE.grow g1 q) h)
    · exact h.elim
  · exact h.elim
end M

namespace M
open PySem PySem.Spec PyProof.Rows L2
variable {X : Cx} {T : Tx} {W : WX} {a b c : Expr} {ma mb mc : ME} {mt mu : MT} {ms mv : MS} {pos : Pos} {st : Stmt} {rest sts : List Stmt}
variable {tg iter : Expr}
noncomputable def pickR {s : Type} (x y : Res s) : Res s := match x with
  | .bad => y
  | z => z
noncomputable def mPick {s : Type} (f g : Env → Mem → Res s) : Env → Mem → Res s := fun e m => pickR (f e m) (g e m)
theorem pickR_or {s : Type} (x y : Res s) : pickR x y = x ∨ pickR x y = y := by
  cases x with
  | bad => exact .inr rfl
  | ok _ _ => exact .inl rfl
  | exc _ _ _ => exact .inl rfl
theorem PE.either {e : Expr} {t t' : TE} (h : PE X e t) (h' : PE X e t') : PE X e (fun σ H Q => t σ H Q ∨ t' σ H Q) := ⟨fun pins s σ H Q I k => k.elim (h.run pins s σ H Q I) (h'.run pins s σ H Q I)⟩
theorem se_pick (h : SE X T W a ma) (h' : SE X T W a mb) : SE X T W a (mPick ma mb) :=
  ⟨PE.imp (M.PE.either h.pe h'.pe) fun σ H Q ⟨av, r, e, m, re, rm, k⟩ => by
    rcases pickR_or (ma e m) (mb e m) with q | q
    · refine .inl ⟨av, r, e, m, re, rm, ?_⟩
      rw [← q]; exact k
    · refine .inr ⟨av, r, e, m, re, rm, ?_⟩
      rw [← q]; exact k⟩
theorem PI.either {t t' : TI} (h : PI X tg iter t) (h' : PI X tg iter t') : PI X tg iter (fun σ H R => t σ H R ∨ t' σ H R) := ⟨fun pins s σ H R I k => k.elim (h.run pins s σ H R I) (h'.run pins s σ H R I)⟩
theorem si_pick {ma mb : Env → Mem → Res MI} (h : SI X T W tg iter ma) (h' : SI X T W tg iter mb) : SI X T W tg iter (mPick ma mb) :=
  ⟨PI.imp (M.PI.either h.pi h'.pi) fun σ H R ⟨av, r, e, m, re, rm, k⟩ => by
    rcases pickR_or (ma e m) (mb e m) with q | q
    · refine .inl ⟨av, r, e, m, re, rm, ?_⟩
      rw [← q]; exact k
    · refine .inr ⟨av, r, e, m, re, rm, ?_⟩
      rw [← q]; exact k⟩
theorem PS.either {t t' : TS} (h : PS X st t) (h' : PS X st t') : PS X st (fun D σ H => t D σ H ∨ t' D σ H) := ⟨fun pins s σ H D I k => k.elim (h.run pins s σ H D I) (h'.run pins s σ H D I)⟩
noncomputable def mPickS (f g : MS) : MS := fun e m => match f e m with
  | .bad => g e m
  | z => z
theorem ss_pick (h : SS X T W st ms) (h' : SS X T W st mv) : SS X T W st (mPickS ms mv) :=
  ⟨PS.imp (M.PS.either h.ps h'.ps) fun D σ H ⟨av, r, e, m, re, rm, k⟩ => by
    by_cases q : ms e m = .bad
    · refine .inr ⟨av, r, e, m, re, rm, ?_⟩
      unfold mPickS at k
      rw [q] at k
      exact k
    · refine .inl ⟨av, r, e, m, re, rm, ?_⟩
      unfold mPickS at k
      split at k
      · rename_i z
        exact absurd z q
      · exact k⟩
end M

namespace M
open PySem PySem.Spec PyProof.Rows L2
variable {X : Cx} {T : Tx} {W : WX} {a b c : Expr} {ma mb mc : ME} {mt mu : MT} {ms mv : MS} {pos : Pos} {st : Stmt} {rest sts : List Stmt}
theorem PT.either {e : Expr} {t t' : TT} (h : PT X e t) (h' : PT X e t') : PT X e (fun σ H Q => t σ H Q ∨ t' σ H Q) := ⟨fun pins s σ H Q I k => k.elim (h.run pins s σ H Q I) (h'.run pins s σ H Q I)⟩
theorem st_pick (h : ST X T W a mt) (h' : ST X T W a mu) : ST X T W a (mPick mt mu) :=
  ⟨PT.imp (M.PT.either h.pt h'.pt) fun σ H Q ⟨av, r, e, m, re, rm, k⟩ => by
    rcases pickR_or (mt e m) (mu e m) with q | q
    · refine .inl ⟨av, r, e, m, re, rm, ?_⟩
      rw [← q]; exact k
    · refine .inr ⟨av, r, e, m, re, rm, ?_⟩
      rw [← q]; exact k⟩
theorem tb_read {me : ME} {t : TE} (f : ∀ σ H Q, tE T W me σ H Q → t σ H Q) : ∀ σ H Q, tT T W (mTb me) σ H Q → t σ H fun x H1 => ∃ b, x = .bl b ∧ Q b H1 := fun σ H Q ⟨av, r, e, m, re, rm, h⟩ =>
  f σ H _ ⟨av, r, e, m, re, rm, okR_imp (okR_bind h) fun x m1 h r1 H1 v g1 rm1 rv => by
    obtain ⟨b, rfl, k⟩ := okR_tb h
    exact ⟨b, rv.bl', k r1 H1 g1 rm1⟩⟩
theorem st_inD (hu : X.A.units + 1 < cLine) (ha : SE X T W a ma) (hb : SE X T W b mb) (hm : behindInMarks .In b = false) : ST X T W (.Compare a [.In] [b] pos) (mTb (mIn false ma mb)) :=
  ⟨PT.imp (pt_cmp (pc_din hu ha.pe hb.pe) hm) (tb_read (t := tDIn (tE T W ma) (tE T W mb)) fun σ H Q ⟨av, r, e, m, re, rm, h⟩ =>
    ⟨av, r, e, m, re, rm, okR_imp (okR_bind h) fun y m1 h r1 H1 w g1 rm1 rw => ⟨av, r1, e, m1, re.grow g1, rm1, okR_grow g1 (fun x m2 h r2 H2 v g2 rm2 rv => by
      split at h
      · rename_i o ho
        obtain ⟨a, z, rfl, hg, hz⟩ := lookP_ok rm2 rv (rw.grow g2) ho
        refine ⟨a, z, rfl, hg, ?_⟩
        rw [optV_some hz]
        exact h r2 H2 _ (g1.trans g2) rm2 rv_bl
      · exact h.elim) (okR_bind h)⟩⟩)⟩
theorem st_notinD (hu : X.A.units + 1 < cLine) (ha : SE X T W a ma) (hb : SE X T W b mb) (hm : behindInMarks .NotIn b = false) : ST X T W (.Compare a [.NotIn] [b] pos) (mTb (mIn true ma mb)) :=
  ⟨PT.imp (pt_cmp (pc_dnotin hu ha.pe hb.pe) hm) (tb_read (t := tDNotIn (tE T W ma) (tE T W mb)) fun σ H Q ⟨av, r, e, m, re, rm, h⟩ =>
    ⟨av, r, e, m, re, rm, okR_imp (okR_bind h) fun y m1 h r1 H1 w g1 rm1 rw => ⟨av, r1, e, m1, re.grow g1, rm1, okR_grow g1 (fun x m2 h r2 H2 v g2 rm2 rv => by
      split at h
      · rename_i o ho
        obtain ⟨a, z, rfl, hg, hz⟩ := lookP_ok rm2 rv (rw.grow g2) ho
        refine ⟨a, z, rfl, hg, ?_⟩
        rw [optV_some hz]
        exact h r2 H2 _ (g1.trans g2) rm2 rv_bl
      · exact h.elim) (okR_bind h)⟩⟩)⟩
theorem _root_.L2.Room.u0 {k : Nat} {A : Around} (r : Room k A) : A.units < cLine := by have := r.un; omega
theorem _root_.L2.Room.u1 {k : Nat} {A : Around} (r : Room k A) : A.units + 1 < cLine := by have := r.un; omega
theorem _root_.L2.Room.u64 {k : Nat} {A : Around} (r : Room k A) : A.units + 64 < cLine := by have := r.un; omega
theorem _root_.L2.Room.u65 {k : Nat} {A : Around} (r : Room k A) : A.units + 65 < cLine := by have := r.un; omega
end M

namespace M
open PySem PySem.Spec PyProof.Rows L2
variable {X : Cx} {T : Tx} {W : WX} {a b c : Expr} {ma mb mc : ME} {mt mu : MT} {ms mv : MS} {pos : Pos} {st : Stmt} {rest sts : List Stmt}
variable {av av' : Av} {r r' r2 : List Addr} {H H' H2 : Hp} {m m' : Mem}
variable {x : Str} {f : Addr} {fd : FuncData} {ps : List Str} {k n : Nat}
section
variable {P : Program} {w : World} {K : PySem.W.Frag} {mg : Str → Option Value} {base : Heap}
theorem fg_mkC {qual : Str} {N : List Str} {body : MS} {cdv : Value} (F : Fun K x qual st f fd) (S : FnScope N ps (defScope st)) (hcd : fd.code = cdv)
    (hb : ∀ (A : Around) (outer : List PySem.Env) (s : Shared) (H : Hp) (E : XK), A.guards = some [] → Room k (A.deeper (envOfC qual (defScope st) s.heap.objs.size f cdv)) →
      SB (cxOf (L2.CX P w) P w K mg base N qual (defScope st) f cdv A outer s H E) T (WN E) (defBody st) body) : FnG P w K mg base (L2.CX P w) (k + 1) f fd ps (spM T ps.length (mFn N.length body)) := by
  obtain ⟨oc, od, kV, doc, pm, an, cdv', ct, osl, rfl, lk, hcd'⟩ := F.ex
  cases hcd
  refine ⟨fun vs H Q E h => h.1, fun A outer s H g us vs Q E gd hr e0 hbt rv h => ?_⟩
  refine LamX.run_ofS (k := k) lk hcd' S hr e0 hbt rv h.1 fun hr' => ?_
  refine ⟨_, (hb A outer s H E gd hr').ps, ?_⟩
  obtain ⟨_, av, r, m, xs, rv, rm, h⟩ := h
  refine ⟨av, r, _, m, re_start rv, rm, ?_⟩
  unfold mFn at h
  split at h
  · rename_i e' m' hbd
    rw [hbd]
    exact fun r1 H1 σ1 g rm1 re1 => h r1 H1 .non g rm1 rv_non
  · rename_i v m' hbd
    rw [hbd]
    exact fun r1 H1 w g rm1 rv1 => h r1 H1 w g rm1 rv1
  · rename_i c ws e' m' hbd
    rw [hbd]
    exact fun r1 H1 σ1 cls d g rm1 re1 rx => h r1 H1 cls d g rm1 rx
  · exact h.elim
end
theorem rvs_ns : ∀ ns : List Int, RVs T av r H (ns.map PV.int) (ns.map V.int) := rvs_intsB
theorem rm_start (hT : LamX.Tabs T.tb H) : RM T (fun _ => False) [] H [] := ⟨rfl, List.nodup_nil, fun i o a h1 => by simp at h1, hT, fun a ha => (ha.elim False.elim fun z => (by cases z)), fun a ha => False.elim ha⟩
theorem law_says {mf : MF} {a : Addr} {ns : List Int} (hT : LamX.Tabs T.tb H) (hS : SqL T.K H a (ns.map V.int)) (h1 : ∃ m, mf [.lst (ns.map PV.int)] [] = .ok (.bl true) m) (h2 : ∃ m, mf [.kst (ns.map PV.int)] [] = .ok (.bl true) m) :
    spM T 1 mf [.ref a] H (fun v _ => v = .bl true) (fun _ _ _ => False) := by
  rcases hS with hS | hS
  · obtain ⟨m, h1⟩ := h1
    refine ⟨rfl, fun _ => False, [], [], [.lst (ns.map PV.int)], ?_, rm_start hT, ?_⟩
    · unfold RVs
      refine ⟨_, [], rfl, ?_, by unfold RVs; rfl⟩
      unfold RV
      exact ⟨a, _, rfl, ⟨fun z => z, by simp⟩, hS, rvs_ns ns⟩
    · rw [h1]
      exact fun r1 H1 w g rm1 rv => rv.bl'
  · obtain ⟨m, h2⟩ := h2
    refine ⟨rfl, fun _ => False, [], [], [.kst (ns.map PV.int)], ?_, rm_start hT, ?_⟩
    · unfold RVs
      refine ⟨_, [], rfl, ?_, by unfold RVs; rfl⟩
      unfold RV
      exact ⟨a, _, rfl, hS, rvs_ns ns⟩
    · rw [h2]
      exact fun r1 H1 w g rm1 rv => rv.bl'
end M

namespace M
open PySem PySem.Spec PyProof.Rows L2
variable {X : Cx} {T : Tx} {W : WX} {a b c : Expr} {ma mb mc : ME} {mt mu : MT} {ms mv : MS} {pos : Pos} {st : Stmt} {rest sts : List Stmt}
variable {av av' : Av} {r r' r2 : List Addr} {H H' H2 : Hp} {m m' : Mem}
theorem uns64 {k : Nat} {A : Around} (r : Room (k + 1) A) (env : PySem.Env) (h : Option Value) : ((A.deeper env).mark h).units + 64 < cLine := by
  have q := (r.deeper env).un
  show (A.deeper env).units + 64 < cLine
  omega
theorem FnG.mono {P : Program} {w : World} {K : PySem.W.Frag} {mg : Str → Option Value} {base : Heap} {CX : CXT} {j k : Nat} {f : Addr} {fd : FuncData} {ps : List Str} {sp : Sp} (F : FnG P w K mg base CX j f fd ps sp) (h : j ≤ k) : FnG P w K mg base CX k f fd ps sp :=
  ⟨F.many, fun A outer s H g us vs Q E gd hr => F.go A outer s H g us vs Q E gd (hr.mono h)⟩
end M

namespace PySem
open PySem.Spec
noncomputable def tIterO (t : Addr) : Obj := { cls := .type "tuple_iterator", data := .fields #[.ref t, .int 0 0] }
noncomputable def enumO (i : Addr) : Obj := { cls := .type "enumerate", data := .fields #[.none, .bool false, .ref i, rawInt 0, .none, .none] }
theorem tup_enum_new (t : Addr) (its : Array Value) (ot : Obj) (k1 : ot.cls = .type "tuple") (n : Nat) (k2 : ot.data = .seq its n) :
    Meets (Builtin.«enumerate.__new__» ⟨[.type "enumerate", .ref t], []⟩) (fun _ R s =>
      s.heap.get? t = some ot ∧
      R (.ok (.ret (.ref (s.heap.push (tIterO t)).objs.size)))
        { s with heap := (s.heap.push (tIterO t)).push (enumO s.heap.objs.size) }) := by
  refine .of_wp fun prog w A R s hh => ?_
  obtain ⟨hp, gg, dd, tk, os⟩ := s
  obtain ⟨ht, hr⟩ := hh
  have isT : Heap.IsTuple (Shared.heap ⟨hp, gg, dd, tk, os⟩) t its := ⟨_, ht, k1, n, k2⟩
  have sb := sub_enumerate
  wp_walk using wpAny_loadPart' ht
  refine wpAny_stack_any fun st => wpAny_pure ?_
  split
  · rename_i c _ _ _ _ _
    cases (c == Value.type "enumerate") <;>
    · wp_walk using wpAny_loadPart' ht, wpAny_pyIter_tuple isT
      exact ⟨_, rfl, hr⟩
  · wp_walk using wpAny_loadPart' ht, wpAny_pyIter_tuple isT
    exact ⟨_, rfl, hr⟩
theorem call_enumT {prog : Program} {w : World} {A : Around} {E : Value → Shared → Prop} {s : Shared} {t : Addr} {its : Array Value} {Q : Value → Shared → Prop}
    (isT : s.heap.IsTuple t its)
    (go : ∀ h2, IsEnum h2 (s.heap.objs.size + 1) s.heap.objs.size 0 .none → h2.IsTupleIter s.heap.objs.size t 0 →
      (∀ b o, s.heap.get? b = some o → h2.get? b = some o) → Q (.ref (s.heap.objs.size + 1)) { s with heap := h2 }) :
    wpAny (model prog w) A (call (.type "enumerate") [.ref t]) Q E s := by
  obtain ⟨ot, ht, k1, n, k2⟩ := isT
  refine callType_new F.called_enumerate (by decide) (F.typeCall_enumerate_1 _) (F.newCall_enumerate_1 _)
    (fun obj => F.args_object_init_2 obj _) F.entry_enumerate_new (tup_enum_new t its ot k1 n k2) ⟨ht, ?_⟩
  have z1 : (s.heap.push (tIterO t)).objs.size = s.heap.objs.size + 1 := Heap.size_push ..
  show _ ∧ _
  rw [z1]
  have hen : IsEnum ((s.heap.push (tIterO t)).push (enumO s.heap.objs.size)) (s.heap.objs.size + 1) s.heap.objs.size 0 .none := by
    have q := Heap.get?_push_size (s.heap.push (tIterO t)) (o := enumO s.heap.objs.size) rfl
    rwa [z1] at q
  exact ⟨⟨_, hen, rfl⟩, go _ hen ⟨_, Heap.get?_push_of_some _ (Heap.get?_push_size _ rfl), rfl, rfl⟩
    fun b o y => Heap.get?_push_of_some _ (Heap.get?_push_of_some _ y)⟩
end PySem

namespace M
open PySem PySem.Spec PyProof.Rows L2
noncomputable def IteT (K : PySem.W.Frag) (a : Addr) : It :=
  ⟨fun j H => ∃ (vs : List V) (y : V), SqT K H a vs ∧ vs[j]? = some y,
    fun j H v H2 => ∃ N y, v = .ref N ∧ H N = none ∧ H2 = upd H N (.tup [.int (j : Nat), y]) ∧ ∀ vs, SqT K H a vs → vs[j]? = some y,
    fun j H => ∃ vs : List V, SqT K H a vs ∧ vs.length ≤ j⟩
theorem enum_ne {h : Heap} {a e it : Addr} {i : Int} {j : Nat} {old : Value} {its : Array Value} (he : IsEnum h e it i old) (hi : h.IsTupleIter it a j) (ha : h.IsTuple a its) : a ≠ it ∧ e ≠ a := by
  obtain ⟨oa, ea, ca, _⟩ := ha
  obtain ⟨oi, ei, ci, _⟩ := hi
  refine ⟨fun z => ?_, fun z => ?_⟩
  · rw [z] at ea
    cases ea.symm.trans ei
    rw [ca] at ci
    simp at ci
  · have q := ea.symm.trans (z ▸ he)
    cases q
    simp at ca
theorem turn_enumT {P : Program} {w : World} {K : PySem.W.Frag} {elts : List Expr} {kk : Nat} {tpos : Pos} (a e it : Addr) :
    Turn P w K (.Tuple elts kk tpos) (IteT K a) [e, it] e (fun j h => (∃ old, IsEnum h e it ((j : Nat) : Int) old) ∧ h.IsTupleIter it a j ∧ e ≠ it) where
  mem := List.mem_cons_self
  obj := by
    rintro j h ⟨⟨old, he⟩, ⟨o, ho, hc, hd⟩, _⟩ b hb
    rcases (by simpa using hb : b = e ∨ b = it) with z | z
    · rw [z]; exact ⟨_, he, fun v q => nomatch q⟩
    · rw [z]; exact ⟨o, ho, fun v q => by rw [hd] at q; cases q⟩
  keep := by
    rintro j h h2 ⟨⟨old, he⟩, hi, ne⟩ k
    exact ⟨⟨old, k e (by simp) _ he⟩, hi.at fun o q => k it (by simp) o q, ne⟩
  item := by
    rintro X rfl rfl rfl hc j pins s σ H E I hf ⟨⟨old, he⟩, hi, ne⟩ ⟨vs, y, hq, hy⟩
    obtain ⟨its, rv, p, _⟩ := I.tuple hq
    obtain ⟨u, hu, ru⟩ := rv.get hy
    have p2 : s.heap.IsTuple a its.toArray := p
    obtain ⟨na, nb⟩ := enum_ne he hi p2
    have le : e < s.heap.objs.size := Heap.lt_size he
    have li : it < s.heap.objs.size := by obtain ⟨_, q, _⟩ := hi; exact Heap.lt_size q
    have D := Draws.tuple (prog := X.prog) (w := X.w) (A := X.A.in1) (I.ok.hd hc) it a na its.toArray
    have lj : j < its.toArray.size := by simpa using (List.getElem?_eq_some_iff.mp hu).1
    refine wpAny_pyNext_enum_itemD D he ⟨hi, p2⟩ lj ne (by simp [ne, nb]) fun x h2 tk hx out st2 hT _ hk => ?_
    have xu : x = u := by
      have q : its.toArray[j]? = some u := by simpa using hu
      exact Option.some.inj (hx.symm.trans q)
    subst xu
    refine ⟨_, rfl, wpAny_letOwnedTupleGo_enum (s := { s with heap := h2, toks := tk + 1 }) out fun h3 he3 sb => ?_⟩
    have hT3 := (sb.2 _ (Nat.ne_of_gt le)).trans hT
    have new : ObjOk X.prog X.w (upd H s.heap.objs.size (.tup [.int (j : Nat), y])) h3 s.heap.objs.size (.tup [.int (j : Nat), y]) :=
      ⟨by show 2 ≤ sizeLine; decide, [.int j tk, x], .cons ⟨_, rfl⟩ (.cons ru .nil), ⟨_, hT3, rfl, _, rfl⟩⟩
    have out3 : ∀ b ob, b ∉ [e, it] → s.heap.get? b = some ob → h3.get? b = some ob := fun b ob hb q => by
      have nb : b ≠ e ∧ b ≠ it := by simpa using hb
      exact (sb.2 b nb.1).trans (hk b ob nb.1 nb.2 q)
    have I1 : Inv X pins σ (upd H s.heap.objs.size (.tup [.int (j : Nat), y])) { s with heap := h3, toks := tk + 1 } :=
      I.turnedNew (ch := [e, it]) out3 hf (Nat.le_refl _) new
    refine ⟨.ref s.heap.objs.size, _, I1, rfl, ⟨_, y, rfl, I.hok.fresh (Nat.le_refl _), rfl, fun zs hz => by rw [I.tuple_inj hz hq]; exact hy⟩, ⟨⟨x, ?_⟩, st2.1.at fun o q => (sb.2 it (Ne.symm ne)).trans q, ne⟩, fun b hb => ?_⟩
    · rw [show ((j + 1 : Nat) : Int) = (j : Int) + 1 by omega]
      exact he3
    · have lb : b < s.heap.objs.size := by
        rcases (by simpa using hb : b = e ∨ b = it) with z | z
        · exact z ▸ le
        · exact z ▸ li
      rw [upd_ne (Nat.ne_of_lt lb)]
      exact (hf b hb).1
  done := by
    rintro X rfl rfl rfl hc j pins s σ H E I hf ⟨⟨old, he⟩, hi, ne⟩ ⟨vs, hq, hy⟩
    obtain ⟨its, rv, p, _⟩ := I.tuple hq
    have p2 : s.heap.IsTuple a its.toArray := p
    obtain ⟨na, nb⟩ := enum_ne he hi p2
    have hl := rv.length
    obtain ⟨f0, f1, f2, f3, f4, f5⟩ := hf it (by simp)
    have D : Draws X.prog X.w X.A.in1 it [it, a] j (fun _ _ => True) (fun i h => i = j ∧ h.IsTupleIter it a i ∧ h.IsTuple a its.toArray) :=
      { live := fun _ _ st => let ⟨o, ho, _⟩ := st.2.1; ⟨o, ho⟩
        frame := fun _ _ _ st hk => ⟨st.1, st.2.1.at fun o q => hk it (by simp) o q, st.2.2.at fun o q => hk a (by simp) o q⟩
        item := fun i s Q E lt st => absurd st.1 (Nat.ne_of_lt lt)
        done := fun s Q E st go => wpAny_nextOf_tuple_end (I.ok.hd hc) st.2.1 st.2.2 (by simp; omega) go }
    exact wpAny_pyNext_enum_endD D he ⟨rfl, hi, p2⟩ fun h2 eb =>
      ⟨rfl, I.turned (t' := s.toks) (fun b o hb q => eb b o hb q) f0 f1 f3 f4 f5⟩
  self := fun A j s Q E st h => by
    obtain ⟨⟨old, he⟩, _⟩ := st
    exact wpAny_pyIter_enum he h
noncomputable def iEnumT (K : PySem.W.Frag) (ta : TA) : TI := fun σ H R => ta σ H fun us H1 => ∃ a vs, us = [.ref a] ∧ SqT K H1 a vs ∧ R (IteT K a) H1
theorem pi_enumT {X : Cx} {a : Expr} {ta : TA} {p pos tpos : Pos} {elts : List Expr} {kk : Nat} (hg : Gl X "enumerate") (hm : X.mg "enumerate" = none) (ha : PA X [a] ta)
    (one : starEach [a] X.env = [(false, eval a X.env)] := by rfl) : PI X (.Tuple elts kk tpos) (.Call (.Name "enumerate" p) [a] [] pos) (iEnumT X.K ta) := by
  refine ⟨fun pins s σ H R I h => Call_ (ld_blt I hg hm boot_enumerate (PyProof.Rows.callWith_type1 (thn (ha.run pos pins s σ H _ I h) ?_) one rfl))⟩
  rintro us s1 ⟨ws, H1, I1, r1, b, vs, rfl, hq, q⟩
  obtain ⟨u, ul, r2, r3, e1⟩ : ∃ u ul, RelV (.ref b) u ∧ ul = [] ∧ us = u :: ul := by
    cases r1 with
    | cons r rr => cases rr; exact ⟨_, _, r, rfl, rfl⟩
  subst r3
  subst e1
  cases r2
  obtain ⟨its, rv, p', _⟩ := I1.tuple hq
  refine call_enumT (show s1.heap.IsTuple b its.toArray from p') fun h2 he hi hk => wpAny_pyIter_enum he ?_
  have I2 : Inv X pins σ H1 { s1 with heap := h2 } := I1.kept (t' := s1.toks) hk
  refine ⟨s1.heap.objs.size + 1, [s1.heap.objs.size + 1, s1.heap.objs.size], _, _, H1, rfl, I2, turn_enumT b (s1.heap.objs.size + 1) s1.heap.objs.size, ⟨⟨.none, he⟩, hi, Nat.succ_ne_self _⟩, fun x hx => ?_, q⟩
  have lx : s1.heap.objs.size ≤ x := by
    rcases (by simpa using hx : x = s1.heap.objs.size + 1 ∨ x = s1.heap.objs.size) with z | z
    · rw [z]; exact Nat.le_add_right _ _
    · rw [z]; exact Nat.le_refl _
  exact I1.fpOk lx (I1.hok.fresh lx)

variable {T : Tx} {av av' : Av} {r r' r2 : List Addr} {H H' H2 : Hp} {X : Cx} {W : WX} {a : Expr} {pos : Pos}
theorem iok_enumT (hK : X.K = T.K) {xs : List PV} {v : V} (h : RV T av r H (.tup xs) v) : ∃ a vs, v = .ref a ∧ SqT X.K H a vs ∧ IOk T av r H (enI xs) (IteT X.K a) := by
  have h0 := h
  obtain ⟨a, vs, rfl, ha, hv⟩ := tup_ok hK h
  refine ⟨a, vs, rfl, ha, fun av' r' H' m' i hw g rm => ?_⟩
  obtain ⟨a', vs', e, ha', hv'⟩ := tup_ok hK ((h0.widen hw).growA g)
  cases e
  show match enI xs m' i with
    | none => True
    | some none => _
    | some (some x) => _
  unfold enI
  cases q : xs[i]? with
  | none => exact ⟨vs', ha', by rw [hv'.length]; exact List.getElem?_eq_none_iff.mp q⟩
  | some x =>
    obtain ⟨w, hw', rw'⟩ := hv'.get q
    refine ⟨⟨vs', w, ha', hw'⟩, fun v H2 y => ?_⟩
    obtain ⟨p, z, rfl, hp, rfl, hz⟩ := y
    have e : z = w := Option.some.inj ((hz vs' ha').symm.trans hw')
    subst e
    refine ⟨r', grow_upd hp, (rm.pass hp), rv_newT rm hp ?_⟩
    unfold RVs
    exact ⟨_, _, rfl, rv_int, by unfold RVs; exact ⟨_, [], rfl, rw', by unfold RVs; rfl⟩⟩
noncomputable def mIEt (mr : MA) : Env → Mem → Res MI := fun e m => (mr e m).bind fun vs m1 => match vs with
  | [.tup xs] => .ok (enI xs) m1
  | _ => .bad
theorem si_enumT (hK : X.K = T.K) {mr : MA} {elts : List Expr} {kk : Nat} {p tpos : Pos} (hg : Gl X "enumerate") (hm : X.mg "enumerate" = none) (ha : SA X T W [a] mr) (hs : starEach [a] X.env = [(false, eval a X.env)] := by rfl) : SI X T W (.Tuple elts kk tpos) (.Call (.Name "enumerate" p) [a] [] pos) (mIEt mr) :=
  ⟨PI.imp (pi_enumT hg hm ha.pa hs) fun σ H R ⟨av, r, e, m, re, rm, h⟩ => ⟨av, r, e, m, re, rm, okR_imp (okR_bind h) fun vs m1 h r1 H1 ws g1 rm1 rv => by
    split at h
    · obtain ⟨v, rfl, hv⟩ := rvs1 rv
      obtain ⟨p, us, rfl, hp, iok⟩ := iok_enumT (X := X) hK hv
      exact ⟨p, us, rfl, hp, h r1 H1 _ g1 rm1 iok⟩
    · exact h.elim⟩⟩
theorem se_gval {x : Str} {u : Value} {p : PV} (hg : Gl X x) (hm : X.mg x = some u) (hr : ∃ v, RelV v u ∧ ∀ av r H, RV T av r H p v) (hd : (x == ("__debug__" : Str)) = false := by decide) : SE X T W (.Name x pos) (mC p) :=
  let ⟨_, h1, h2⟩ := hr
  se_const (pe_glob hg hm h1 hd) h2
end M

namespace M
open PySem PySem.Spec PyProof.Rows L2
section
variable {X : Cx} {e : Expr} {es : List Expr} {ta : TA} {p1 p2 pos : Pos}
theorem pe_binit {pl : Sem Bool} {x : Str} {B : Addr} (hg : Gl X x) (hm : X.mg x = some (.ref B)) (sg : PySem.W.specialIn X.K (.ref B) "__getattribute__" = some (some (.builtin "type.__getattribute__")))
    (ty : PySem.W.typeIn X.K (.ref B) = some (.type "type")) (rd : PySem.W.readsIn X.K B (.type "type") = true)
    (fc : PySem.W.findCls X.K (.ref B) (.type "type") "__init__" = some (.val (.builtin "ValueError.__init__"))) (ha : PA X (e :: es) ta)
    (ev : eval (.Call (.Attribute (.Name x p1) "__init__" p2) (e :: es) [] pos) X.env =
      (do let ob ← eval (.Name x p1) X.env
          standAt p2.atName
          let (g, one) ← holding [ob] (getMethod ob "__init__" pl)
          callWith pos g one (backTo pos (starEach (e :: es) X.env)) (backToKw pos (keywordEach [] X.env))) := by rfl)
    (se : starEach (e :: es) X.env = (false, eval e X.env) :: starEach es X.env := by rfl)
    (sp : (backTo pos (starEach es X.env)).any (·.1) = false := by rfl) (hd : (x == ("__debug__" : Str)) = false := by decide) :
    PE X (.Call (.Attribute (.Name x p1) "__init__" p2) (e :: es) [] pos) (tVeI X.K ta) := by
  constructor
  intro pins s σ H Q I h
  refine PySem.W.methodCall_KW (ld_glob I hg hm ?_ hd) ev
  obtain ⟨m, fr⟩ := I.fr
  refine PySem.W.method_of_cls fr I.ok.mod.kin sg ?_
  refine PySem.W.cls_val fr I.ok.mod.kin ty rd fc (by decide +kernel) ?_
  refine PyProof.Rows.callWith_method1 (thn (ha.run pos pins _ σ H _ (I.tok _) h) ?_) se sp
  rintro us s1 ⟨vs, H1, I1, r1, a, C, ws, rfl, hl, TC, ea, q⟩
  cases r1 with
  | @cons _ u0 _ ur ra rr =>
    obtain rfl : u0 = Value.ref a := ra
    have len : ur.length ≤ sizeLine := by
      have z := Paired.length rr
      rw [sizeLine_eq, ← z]
      omega
    exact oinit_ok TC I1 ea len fun s' J => ⟨.non, H1, J, rfl, q⟩
end
mutual
noncomputable def kvOk (K : PySem.W.Frag) : PV → Value → Bool
  | .non, .none => true
  | .bl b, .bool c => b == c
  | .int i, .int j _ => decide (i = j)
  | .str s, .str t _ => decide (s = t)
  | .tup xs, .ref a => match K.lookup a with
    | some o => match o.data with
      | .seq its _ => (o.cls == .type "tuple") && decide (its.size ≤ sizeLine) && kvsOk K xs its.toList
      | _ => false
    | none => false
  | _, _ => false
noncomputable def kvsOk (K : PySem.W.Frag) : List PV → List Value → Bool
  | [], [] => true
  | x :: xs, u :: us => kvOk K x u && kvsOk K xs us
  | _, _ => false
end
section
variable {T : Tx}
mutual
theorem kv_of (ht : T.kt = true) : ∀ (p : PV) (u : Value), kvOk T.K p u = true → ∃ v, RelV v u ∧ ∀ av r H, RV T av r H p v
  | .non, .none, _ => ⟨.non, rfl, fun _ _ _ => by unfold RV; rfl⟩
  | .bl b, .bool c, h => ⟨.bl b, by unfold kvOk at h; rw [beq_iff_eq.mp h]; rfl, fun _ _ _ => by unfold RV; rfl⟩
  | .int i, .int j t, h => ⟨.int i, by unfold kvOk at h; rw [of_decide_eq_true h]; exact ⟨t, rfl⟩, fun _ _ _ => by unfold RV; rfl⟩
  | .str s, .str x t, h => ⟨.str s, by unfold kvOk at h; rw [of_decide_eq_true h]; exact ⟨t, rfl⟩, fun _ _ _ => by unfold RV; rfl⟩
  | .tup xs, .ref a, h => by
    unfold kvOk at h
    split at h
    · rename_i o ho
      split at h
      · rename_i its n hd
        simp only [Bool.and_eq_true, decide_eq_true_eq, beq_iff_eq] at h
        obtain ⟨⟨hc, hz⟩, hs⟩ := h
        obtain ⟨vs, h1, h2⟩ := kvs_of ht xs its.toList hs
        exact ⟨.ref a, rfl, fun av r H => by unfold RV; exact ⟨a, vs, rfl, .inr (.inl ⟨ht, o, its, n, ho, hc, hd, hz, h1⟩), h2 av r H⟩⟩
      · cases h
    · cases h
theorem kvs_of (ht : T.kt = true) : ∀ (ps : List PV) (us : List Value), kvsOk T.K ps us = true → ∃ vs, Vals vs us ∧ ∀ av r H, RVs T av r H ps vs
  | [], [], _ => ⟨[], .nil, fun _ _ _ => by unfold RVs; rfl⟩
  | p :: ps, u :: us, h => by
    unfold kvsOk at h
    rw [Bool.and_eq_true] at h
    obtain ⟨v, h1, h2⟩ := kv_of ht p u h.1
    obtain ⟨vs, h3, h4⟩ := kvs_of ht ps us h.2
    exact ⟨v :: vs, .cons h1 h3, fun av r H => by unfold RVs; exact ⟨v, vs, rfl, h2 av r H, h4 av r H⟩⟩
end
end

noncomputable def isTab (own : List Nat) (tab : List (Nat × List Nat)) (k t : Nat) : Option Bool := match tab.lookup k with
  | some l => if t < 7 || own.contains t then some (l.contains t) else none
  | none => none
structure InsK (K : PySem.W.Frag) (C : Addr) : Prop where
  cl : Cls K C
  ha : PySem.W.findIn K (.ref C) "__class__" = some (some (.builtin "object.__class__"))
  hn : PySem.W.specialIn K (.builtin "object.__class__") "__get__" = some (some (.builtin "getset_descriptor.__get__"))
  htk : PySem.W.takesIn K (.builtin "object.__class__") = some true
  hm : PySem.W.mroIn K C (.type "object") = some true
noncomputable def isiChk (K : PySem.W.Frag) (cA : Nat → Addr) (own : List Nat) (tab : List (Nat × List Nat)) (us : Nat → Value) : Bool :=
  tab.all fun kl => (List.range 7).all (fun t => PySem.W.kitOne K (.type (tagN t)) (us kl.1) == some (kl.2.contains t)) &&
    own.all fun o => PySem.W.kitOne K (.ref (cA (o - 10))) (us kl.1) == some (kl.2.contains o)
theorem lookup_mem {k : Nat} {l : List Nat} : ∀ {tab : List (Nat × List Nat)}, tab.lookup k = some l → (k, l) ∈ tab
  | [], h => by simp at h
  | (j, m) :: tab, h => by
    rw [List.lookup_cons] at h
    split at h
    · rename_i q
      cases h
      rw [beq_iff_eq.mp q]
      exact List.mem_cons_self
    · exact List.mem_cons_of_mem _ (lookup_mem h)
theorem isi_of {X : Cx} {T : Tx} {own : List Nat} {tab : List (Nat × List Nat)} {us : Nat → Value} (h10 : ∀ o ∈ own, 10 ≤ o) (hc : ∀ kl ∈ tab, ClsV (T.g kl.1) (us kl.1)) (hI : ∀ o ∈ own, InsK X.K (T.cA (o - 10)))
    (self : ∀ o ∈ own, PySem.W.kitOne X.K (.ref (T.cA (o - 10))) (.ref (T.cA (o - 10))) = some true) (hk : isiChk X.K T.cA own tab us = true) : IsiOk X T (isTab own tab) := by
  constructor
  intro k t b h
  unfold isTab at h
  split at h
  · rename_i l hl
    have hm := lookup_mem hl
    have q := List.all_eq_true.mp hk _ hm
    rw [Bool.and_eq_true] at q
    obtain ⟨q1, q2⟩ := q
    split at h
    · rename_i ht
      cases h
      refine ⟨us k, hc _ hm, fun lt => ?_, fun c e => ?_⟩
      · have t7 : t < 7 := by
          rcases Bool.or_eq_true _ _ ▸ ht with z | z
          · exact of_decide_eq_true z
          · rw [List.contains_iff_mem] at z
            have := h10 t z
            omega
        exact beq_iff_eq.mp (List.all_eq_true.mp q1 t (List.mem_range.mpr t7))
      · have hmo : t ∈ own := by
          rcases Bool.or_eq_true _ _ ▸ ht with z | z
          · have := of_decide_eq_true z
            omega
          · rwa [List.contains_iff_mem] at z
        have ec : t - 10 = c := by omega
        have I := hI t hmo
        have q3 := beq_iff_eq.mp (List.all_eq_true.mp q2 t hmo)
        have s3 := self t hmo
        rw [ec] at I q3 s3
        exact ⟨⟨I.cl, I.ha, I.hn, I.htk, I.hm, s3⟩, q3⟩
    · cases h
  · cases h

noncomputable def aptChk (K : PySem.W.Frag) (cs : List Addr) : Bool := (List.range cs.length).all fun i => (List.range cs.length).all fun j => PySem.W.exmOne K (.ref (cs.getD i 0)) (.ref (cs.getD j 0)) == some (i == j)
theorem apart_of {T : Tx} {cs : List Addr} {n : Nat} (hn : cs.length = n) (h : aptChk T.K cs = true) (e : ∀ i, i < n → T.cA i = cs.getD i 0) : Apart T n := fun c c' hc hc' => by
  have q := List.all_eq_true.mp (List.all_eq_true.mp h c (List.mem_range.mpr (by omega))) c' (List.mem_range.mpr (by omega))
  rw [e c hc, e c' hc']
  exact beq_iff_eq.mp q
section
variable {X : Cx} {T : Tx} {E : XK} {k n : Nat} {f : Addr} {fd : FuncData} {ps : List Str} {mf : MF} {x : Str} {a : Expr} {es : List Expr} {mr : MA} {p pos : Pos}
theorem se_callGP (F : FnG X.prog X.w X.K X.mg X.base (L2.CX X.prog X.w) k f fd ps (spM T n mf)) (gd : X.A.guards = some []) (hr : Room k X.A) (hg : Gl X x) (hm : X.mg x = some (.ref f)) (hk : PySem.W.keepIn X.K (.ref f) = true) (hb : Binds X.K fd ps []) (tk : Takes X (WN E)) (ha : SA X T (WN E) (a :: es) mr)
    (hdb : (x == ("__debug__" : Str)) = false := by decide) (he : starEach (a :: es) X.env = (false, eval a X.env) :: starEach es X.env := by rfl) (hpl : (backTo pos (starEach es X.env)).any (·.1) = false := by rfl) :
    SE X T (WN E) (.Call (.Name x p) (a :: es) [] pos) (mCallP n mf mr) :=
  ⟨PE.imp (pe_callG F gd hr hg hm hk hb (passes_call tk (fun _ _ _ _ h => h)) ha.pa hdb he hpl) fun σ H Q ⟨av, r, e, m, re, rm, h⟩ =>
    ⟨av, r, e, m, re, rm, okR_imp (okR_bind h) fun xs m1 h r1 H1 vs g1 rm1 rv1 => sp_callP rm1 rv1 (okR_grow g1 (fun _ _ q => KE.grow g1 q) h)⟩⟩
end
end M

namespace M
open PySem PySem.Spec PyProof.Rows L2
variable {X : Cx} {T : Tx} {W : WX} {a b c : Expr} {ma mb mc : ME} {mt mu : MT} {pos : Pos}
variable {av av' : Av} {r r' r2 : List Addr} {H H' H2 : Hp} {m m' : Mem}
noncomputable def fOrI := fI (fun _ _ => true) fun i j => .int (Builtin.bitOr i j)
noncomputable def fAndI := fI (fun _ _ => true) fun i j => .int (Builtin.bitAnd i j)
theorem om_orI : OpM X T (binaryOp .BitOr) fOrI := opm_I0 op_or fun _ _ _ _ _ => rv_int
theorem om_andI : OpM X T (binaryOp .BitAnd) fAndI := opm_I0 op_and fun _ _ _ _ _ => rv_int
noncomputable def fShlI := fI (fun i j => decide (0 ≤ j) && decide (((i.natAbs.log2 + 1 : Nat) : Int) + j ≤ 2 ^ 20)) fun i j => .int (i * 2 ^ j.toNat)
theorem om_shlI : OpM X T (binaryOp .LShift) fShlI := opm_I op_shlW (fun i j h => by
  rw [Bool.and_eq_true, decide_eq_true_eq, decide_eq_true_eq] at h
  refine ⟨h.1, Int.le_trans (Int.add_le_add_right (Int.ofNat_le.mpr (bits_le i)) _) (Int.le_trans h.2 (by decide))⟩) fun _ _ _ _ _ => rv_int
noncomputable def fInv : PV → Option PV
  | .int i => some (.int (Builtin.bitNot i))
  | _ => none
theorem se_inv (ha : SE X T W a ma) : SE X T W (.UnaryOp .Invert a pos) (mUn fInv ma) :=
  ⟨PE.imp (pe_un un_inv ha.pe) fun σ H Q ⟨av, r, e, m, re, rm, h⟩ =>
    ⟨av, r, e, m, re, rm, okR_imp (okR_bind h) fun x m1 h r1 H1 v g1 rm1 rv => by
      obtain ⟨z, hz, k⟩ := okR_oP h
      unfold fInv at hz
      split at hz
      · cases hz
        exact ⟨_, rv.int', k r1 H1 _ g1 rm1 rv_int⟩
      · cases hz⟩⟩
noncomputable def nonP : PV → Option Bool
  | .non => some true
  | .bl _ => some false
  | .int _ => some false
  | .str _ => some false
  | .tup _ => some false
  | .lst _ => some false
  | .kst _ => some false
  | .ins _ _ => some false
  | .dct _ _ => some false
  | .dtt _ _ => some false
  | .ref _ => some false
  | .exn _ _ => some false
  | .glo _ => none
  | .lam _ => none
  | .opq => none
  | .ftup _ => none
  | .clo0 _ => none
  | .clo _ _ => none
theorem nonP_ok {x : PV} {v : V} {k : Bool} (rv : RV T av r H x v) (h : nonP x = some k) : decide (v = .non) = k := by
  cases x <;> simp only [nonP] at h <;> cases h <;> unfold RV at rv
  · subst rv; rfl
  · subst rv; rfl
  · subst rv; rfl
  · subst rv; rfl
  · obtain ⟨_, _, rfl, _⟩ := rv; rfl
  · obtain ⟨_, _, rfl, _⟩ := rv; rfl
  · obtain ⟨_, _, _, rfl, _⟩ := rv; rfl
  · obtain ⟨_, _, rfl, _⟩ := rv; rfl
  · obtain ⟨_, _, rfl, _⟩ := rv; rfl
  · obtain ⟨_, _, rfl⟩ := rv; rfl
  · obtain ⟨_, _, _, _, rfl, _⟩ := rv; rfl
  · obtain ⟨_, _, rfl, _⟩ := rv; rfl
noncomputable def fIsN (neg : Bool) : PV → PV → Mem → Option PV := fun x y _ => match y with
  | .non => match nonP x with
    | some k => some (.bl (neg != k))
    | none => none
  | _ => none
theorem om_isN : OpM X T (compareOp .Is) (fIsN false) := by
  refine ⟨_, op_isN, fun {av r H m x y z v w Q} rm rv rw e k => ?_⟩
  unfold fIsN at e
  split at e
  · split at e
    · rename_i b hb
      cases e
      unfold RV at rw
      refine ⟨rw, ?_⟩
      rw [nonP_ok rv hb]
      exact k r H _ .refl rm (by simpa using rv_bl)
    · cases e
  · cases e
theorem om_notN : OpM X T (compareOp .IsNot) (fIsN true) := by
  refine ⟨_, op_notN, fun {av r H m x y z v w Q} rm rv rw e k => ?_⟩
  unfold fIsN at e
  split at e
  · split at e
    · rename_i b hb
      cases e
      unfold RV at rw
      refine ⟨rw, ?_⟩
      rw [nonP_ok rv hb]
      exact k r H _ .refl rm (by simpa using rv_bl)
    · cases e
  · cases e
end M

namespace M
open PySem PySem.Spec PyProof.Rows L2
noncomputable def SqB (K : PySem.W.Frag) (H : Hp) (t : Bool) (a : Addr) (vs : List V) : Prop := if t = true then SqT K H a vs else SqL K H a vs
noncomputable def ItB (h : Heap) (t : Bool) (it a : Addr) (i : Nat) : Prop := if t = true then h.IsTupleIter it a i else h.IsListIter it a i
noncomputable def IsB (h : Heap) (t : Bool) (a : Addr) (its : Array Value) : Prop := if t = true then h.IsTuple a its else h.IsList a its
theorem ItB.cls {h : Heap} {t : Bool} {it a : Addr} {i : Nat} (x : ItB h t it a i) : ∃ o, h.get? it = some o ∧ (o.cls = .type "tuple_iterator" ∨ o.cls = .type "list_iterator") ∧ ∃ u, o.data = .fields u := by
  cases t
  · obtain ⟨o, e, c, d⟩ := (show h.IsListIter it a i from x)
    exact ⟨o, e, .inr c, _, d⟩
  · obtain ⟨o, e, c, d⟩ := (show h.IsTupleIter it a i from x)
    exact ⟨o, e, .inl c, _, d⟩
theorem IsB.cls {h : Heap} {t : Bool} {a : Addr} {its : Array Value} (x : IsB h t a its) : ∃ o, h.get? a = some o ∧ (o.cls = .type "tuple" ∨ o.cls = .type "list") ∧ ∃ n, o.data = .seq its n := by
  cases t
  · obtain ⟨o, e, c, n, d⟩ := (show h.IsList a its from x)
    exact ⟨o, e, .inr c, n, d⟩
  · obtain ⟨o, e, c, n, d⟩ := (show h.IsTuple a its from x)
    exact ⟨o, e, .inl c, n, d⟩
theorem ItB.keep {h h2 : Heap} {t : Bool} {it a : Addr} {i : Nat} (x : ItB h t it a i) (k : ∀ o, h.get? it = some o → h2.get? it = some o) : ItB h2 t it a i := by
  cases t
  · exact (show h.IsListIter it a i from x).at k
  · exact (show h.IsTupleIter it a i from x).at k
theorem IsB.keep {h h2 : Heap} {t : Bool} {a : Addr} {its : Array Value} (x : IsB h t a its) (k : ∀ o, h.get? a = some o → h2.get? a = some o) : IsB h2 t a its := by
  cases t
  · exact (show h.IsList a its from x).at k
  · exact (show h.IsTuple a its from x).at k
theorem itB_ne {h : Heap} {t : Bool} {it a : Addr} {i : Nat} {t2 : Bool} {b : Addr} {its : Array Value} (x : ItB h t it a i) (y : IsB h t2 b its) : b ≠ it := fun z => by
  obtain ⟨o, e, _, u, d⟩ := x.cls
  obtain ⟨o2, e2, _, n, d2⟩ := y.cls
  rw [z] at e2
  cases e.symm.trans e2
  rw [d] at d2
  cases d2
structure ZApart (z TI TO i1 i2 a b : Addr) : Prop where
  Tz : TI ≠ z
  Oz : TO ≠ z
  IO : TI ≠ TO
  T1 : TI ≠ i1
  T2 : TI ≠ i2
  z1 : z ≠ i1
  z2 : z ≠ i2
  O1 : TO ≠ i1
  O2 : TO ≠ i2
  n12 : i1 ≠ i2
  Oa : TO ≠ a
  Ob : TO ≠ b
theorem IsB.lt {h : Heap} {t : Bool} {a : Addr} {its : Array Value} (x : IsB h t a its) : a < h.objs.size := by
  obtain ⟨o, e, _⟩ := x.cls
  exact Heap.lt_size e
variable {T : Tx} {av av' : Av} {r r' r2 : List Addr} {H H' H2 : Hp} {X : Cx} {W : WX} {a b : Expr} {pos : Pos}
end M

namespace M
open PySem PySem.Spec PyProof.Rows L2
variable {X : Cx} {T : Tx} {W : WX} {a b c : Expr} {ma mb mc : ME} {mt mu : MT} {ms mv : MS} {pos : Pos} {st : Stmt} {rest sts : List Stmt}
variable {av av' : Av} {r r' r2 : List Addr} {H H' H2 : Hp} {m m' : Mem} {tg iter : Expr}
end M

namespace M
open PySem PySem.Spec PyProof.Rows L2
variable {X : Cx} {T : Tx} {W : WX} {a b c : Expr} {ma mb mc : ME} {mt mu : MT} {ms mv : MS} {pos : Pos} {st : Stmt} {rest sts : List Stmt}
variable {av av' : Av} {r r' r2 : List Addr} {H H' H2 : Hp} {m m' : Mem} {tg iter : Expr}
end M

namespace PySem
open PySem.Spec
end PySem
namespace M
open PySem PySem.Spec PyProof.Rows L2
variable {X : Cx} {T : Tx} {W : WX} {a b c : Expr} {ma mb mc : ME} {pos : Pos}
variable {av av' : Av} {r r' r2 : List Addr} {H H' H2 : Hp} {m m' : Mem}
end M

namespace M
open PySem PySem.Spec PyProof.Rows L2
section
variable {X : Cx} {pins : List (Addr × Obj)} {σ : L2.St} {H : Hp} {s : Shared} {d : Addr} {o : Obj}
end
end M

namespace M
open PySem PySem.Spec PyProof.Rows L2
variable {X : Cx} {T : Tx} {W : WX} {a b c : Expr} {ma mb mc : ME} {mt mu : MT} {ms mv : MS} {pos : Pos} {st : Stmt} {rest sts : List Stmt}
variable {av av' : Av} {r r' r2 : List Addr} {H H' H2 : Hp} {m m' : Mem} {tg iter : Expr}
noncomputable def nFrz : HO → Prop
  | .frz _ _ => False
  | _ => True
structure Lk (H : Hp) (p : Addr) (o : HO) : Prop where
  rd : ∀ u, nFrz u → Rd H p u → Rd (upd H p o) p u
  t : ∀ vs, H p ≠ some (.tup vs)
  i : ∀ c dx fs, H p ≠ some (.ins c dx fs)
  x : ∀ fs, H p ≠ some (.xd fs)
  e : ∀ φ, H p ≠ some (.ext φ)
  ft : ∀ ob vs, H p ≠ some (.frz ob (.tup vs))
  fo : ∀ ob y, H p ≠ some (.frz ob (.own y))
theorem Lk.at_ {p a : Addr} {o u : HO} (L : Lk H p o) (h : Rd H a u) (n : nFrz u := by trivial) : Rd (upd H p o) a u := by
  by_cases z : a = p
  · subst z; exact L.rd u n h
  · rcases h with h | ⟨o2, h⟩
    · exact .inl (by rw [upd_ne z]; exact h)
    · exact .inr ⟨o2, by rw [upd_ne z]; exact h⟩
mutual
theorem RV.relock {p : Addr} {o : HO} (L : Lk H p o) : ∀ (x : PV) {v : V}, RV T av r H x v → RV T av r (upd H p o) x v
  | .non, _, h => by unfold RV at *; exact h
  | .bl _, _, h => by unfold RV at *; exact h
  | .int _, _, h => by unfold RV at *; exact h
  | .str _, _, h => by unfold RV at *; exact h
  | .tup xs, _, h => by
    unfold RV at *
    obtain ⟨a, vs, e, h1, h2⟩ := h
    refine ⟨a, vs, e, ?_, RVs.relock L xs h2⟩
    rcases h1 with ⟨o, d⟩ | k | ⟨kt, o, ob, d⟩
    · refine .inl ⟨o, ?_⟩
      have ne : a ≠ p := fun z => L.t vs (z ▸ d)
      rw [upd_ne ne]
      exact d
    · exact .inr (.inl k)
    · exact .inr (.inr ⟨kt, o, ob, (by rw [upd_ne (fun z => L.ft _ _ (z ▸ d))]; exact d)⟩)
  | .kst xs, _, h => by
    unfold RV at *
    obtain ⟨a, vs, e, k, h2⟩ := h
    exact ⟨a, vs, e, k, RVs.relock L xs h2⟩
  | .lst xs, _, h => by
    unfold RV at *
    obtain ⟨a, vs, e, o, d, h2⟩ := h
    refine ⟨a, vs, e, o, ?_, RVs.relock L xs h2⟩
    exact L.at_ d
  | .ins c ws, _, h => by
    unfold RV at *
    obtain ⟨a, dx, fs, e, o, d, n, h2⟩ := h
    exact ⟨a, dx, fs, e, o, by rw [upd_ne (fun z => L.i _ _ _ (z ▸ d))]; exact d, n, RVs.relock L ws h2⟩
  | .dtt ks ws, _, h => by
    unfold RV at *
    obtain ⟨a, kvs, e, o, d, nm, h2⟩ := h
    refine ⟨a, kvs, e, o, ?_, nm, RVs.relock L ws h2⟩
    exact L.at_ d
  | .exn c ws, _, h => by
    unfold RV at *
    obtain ⟨a, dx, fs, ex, e, o, d, n, h2⟩ := h
    exact ⟨a, dx, fs, ex, e, o, by rw [upd_ne (fun z => L.x _ (z ▸ d))]; exact d, n, RVs.relock L ws h2⟩
  | .dct ks ws, _, h => by
    unfold RV at *
    obtain ⟨a, vs, e, o, d, h2⟩ := h
    refine ⟨a, vs, e, o, ?_, RVs.relock L ws h2⟩
    rcases d with ⟨kvs, d, q⟩ | ⟨kvs, d, q⟩
    · exact .inl ⟨kvs, L.at_ d, q⟩
    · exact .inr ⟨kvs, L.at_ d, q⟩
  | .glo _, _, h => by unfold RV at *; exact h
  | .opq, _, _ => by unfold RV; trivial
  | .ftup xs, _, h => by
    unfold RV at *
    obtain ⟨a, vs, ob, e, kt, dn, o, d, h2⟩ := h
    exact ⟨a, vs, ob, e, kt, dn, o, (by rw [upd_ne (fun z => L.ft _ _ (z ▸ d))]; exact d), RVs.relock L xs h2⟩
  | .clo0 l, _, h => by
    unfold RV at *
    obtain ⟨f, c, F, φ, ψ, cl, e, z, o1, d1, o2, d2⟩ := h
    exact ⟨f, c, F, φ, ψ, cl, e, z, o1, (by rw [upd_ne (fun z => L.e _ (z ▸ d1))]; exact d1), o2, (by rw [upd_ne (fun z => L.e _ (z ▸ d2))]; exact d2)⟩
  | .clo l xs, _, h => by
    unfold RV at *
    obtain ⟨f, c, F, φ, ψ, cl, vs, e, z, o1, d1, o2, d2, ct, h2⟩ := h
    exact ⟨f, c, F, φ, ψ, cl, vs, e, z, o1, (by rw [upd_ne (fun z => L.e _ (z ▸ d1))]; exact d1), o2, (by rw [upd_ne (fun z => L.e _ (z ▸ d2))]; exact d2), ct.imp (fun a ob o d => ⟨o, (by rw [upd_ne (fun z => L.fo _ _ (z ▸ d))]; exact d)⟩), RVs.relock L xs h2⟩
  | .lam l, _, h => by
    unfold RV at *
    obtain ⟨f, c, F, φ, ψ, e, z, o1, d1, o2, d2⟩ := h
    exact ⟨f, c, F, φ, ψ, e, z, o1, (by rw [upd_ne (fun z => L.e _ (z ▸ d1))]; exact d1), o2, (by rw [upd_ne (fun z => L.e _ (z ▸ d2))]; exact d2)⟩
  | .ref i, _, h => by unfold RV at *; exact h
theorem RVs.relock {p : Addr} {o : HO} (L : Lk H p o) : ∀ (xs : List PV) {vs : List V}, RVs T av r H xs vs → RVs T av r (upd H p o) xs vs
  | [], _, h => by unfold RVs at *; exact h
  | x :: xs, _, h => by
    unfold RVs at *
    obtain ⟨v, ws, e, h1, h2⟩ := h
    exact ⟨v, ws, e, RV.relock L x h1, RVs.relock L xs h2⟩
end

theorem RM.relock {p : Addr} {o : HO} (L : Lk H p o) (hp : p ∉ r) (hs : Solid (H p)) (h : RM T av r H m) (ho : nTbl o) (hu : nTup o) : RM T av r (upd H p o) m :=
  ⟨h.len, h.nd, fun i x a h1 h2 => by
    have ne : a ≠ p := fun z => hp (z ▸ List.mem_of_getElem? h2)
    have q := h.ob i x a h1 h2
    cases x with
    | lst xs => obtain ⟨vs, h1, h2⟩ := q; exact ⟨vs, by rw [upd_ne ne]; exact h1, RVs.relock L _ h2⟩
    | ins c ws => obtain ⟨dx, fs, h1, h2, h3, h4⟩ := q; exact ⟨dx, fs, by rw [upd_ne ne]; exact h1, h2, RVs.relock L _ h3, h4⟩
    | dtt ks ws => obtain ⟨kvs, h1, h2, h3⟩ := q; exact ⟨kvs, by rw [upd_ne ne]; exact h1, h2, RVs.relock L _ h3⟩
    | dnn ks ws => obtain ⟨xs, vs, h1, h2, h3, h4, h5⟩ := q; exact ⟨xs, vs, by rw [upd_ne ne]; exact h1, h2, RVs.relock L _ h3, RVs.relock L _ h4, h5⟩
    | dct ks ws => obtain ⟨vs, h1, h2⟩ := q; exact ⟨vs, dm_upd ne h1, RVs.relock L _ h2⟩, fun q hq => tab_upd hs (h.tb q hq), fun a ha => by
    by_cases z : a = p
    · subst z; exact ⟨o, upd_same, ho⟩
    · obtain ⟨u, e, t⟩ := h.th a ha
      exact ⟨u, by rw [upd_ne z]; exact e, t⟩, fun a ha vs e => by
    by_cases z : a = p
    · subst z
      rw [upd_same] at e
      cases e
      exact hu
    · rw [upd_ne z] at e
      exact h.nt a ha vs e⟩
section
variable {a : Addr} {od : Obj} {kvs : List (List L2.Key × V)}
end
end M

namespace M
open PySem PySem.Spec PyProof.Rows L2
variable {X : Cx} {T : Tx} {W : WX} {a b c : Expr} {pos : Pos}
noncomputable def mPar (i j : Nat) (mr : MA) : MS := fun e m => sB (mr e m) e fun vs m1 => match vs with
  | [x, y] => .nx ((e.set i (some x)).set j (some y)) m1
  | _ => .bad
theorem ss_par (i j : Nat) {x y : Str} {px py pt : Pos} {kt k2 pt2} {mr : MA} (hc : X.calm = true) (hN : X.N.Nodup) (hi : X.N[i]? = some x) (hj : X.N[j]? = some y) (hij : i ≠ j)
    (hx : X.env.scope.names.lookup x = some .local) (hy : X.env.scope.names.lookup y = some .local) (ha : SA X T W [a, b] mr)
    (hw : swappedStores [.Tuple [.Name x px, .Name y py] kt pt] (.Tuple [a, b] k2 pt2) X.env = pure (some [x, y]) := by rfl)
    (hs : swapsWithSole [.Tuple [.Name x px, .Name y py] kt pt] (.Tuple [a, b] k2 pt2) pos.line X.env = pure false := by rfl) :
    SS X T W (.Assign [.Tuple [.Name x px, .Name y py] kt pt] (.Tuple [a, b] k2 pt2) pos) (mPar i j mr) :=
  ⟨PS.imp (ps_par hc hN hi hj hij hx hy ha.pa hw hs) fun D σ H ⟨av, r, e, m, re, rm, h⟩ => ⟨av, r, e, m, re, rm, okR_imp (okS_sB re h) fun vs m1 h r1 H1 ws g1 rm1 rv => by
    split at h
    · obtain ⟨v, w, rfl, hv, hw⟩ := rvs2 rv
      exact ⟨v, w, rfl, h r1 H1 _ g1 rm1 (((re.grow g1).set hv i).set hw j)⟩
    · exact h.elim⟩⟩
end M

namespace M
open PySem PySem.Spec PyProof.Rows L2
variable {X : Cx} {T : Tx} {W : WX} {a b c : Expr} {ma mb mc : ME} {mt mu : MT} {ms mv : MS} {pos : Pos} {st : Stmt} {rest sts : List Stmt}
variable {av av' : Av} {r r' r2 : List Addr} {H H' H2 : Hp} {m m' : Mem} {tg iter : Expr}
end M

namespace M
open PySem PySem.Spec PyProof.Rows L2
variable {X : Cx} {T : Tx} {W : WX} {a b c : Expr} {ma mb mc : ME} {mt mu : MT} {ms mv : MS} {pos : Pos} {st : Stmt} {rest sts : List Stmt}
variable {av av' : Av} {r r' r2 : List Addr} {H H' H2 : Hp} {m m' : Mem} {tg iter : Expr}
noncomputable def DU : HO → Prop
  | .dK _ => True
  | .dT _ => True
  | _ => False
theorem DU.tb {u : HO} (h : DU u) : nTbl u := by cases u <;> first | trivial | exact h.elim
theorem DU.ne {u : HO} (h : DU u) {o : HO} (n : nTbl o) : ∀ ps, u ≠ .tbl ps := fun ps z => by subst z; exact h.elim
section
variable {a : Addr} {od : Obj} {u0 : HO}
end

section
variable {o : Obj} {kvs : List (L2.Key × V)} {ws : List PV} {p : Addr}
end
section
variable {i : Nat} {x : Str} {p1 apos cpos tpos : Pos} {elts : List Expr} {kk : Nat} {ts : List Nat} {mg : MG} {tg : Expr}
end
end M

namespace M
open PySem PySem.Spec PyProof.Rows L2
variable {X : Cx} {T : Tx} {W : WX} {a b c : Expr} {ma mb mc : ME} {mt mu : MT} {ms mv : MS} {pos : Pos} {st : Stmt} {rest sts : List Stmt}
variable {av av' : Av} {r r' r2 : List Addr} {H H' H2 : Hp} {m m' : Mem} {tg iter : Expr}
section
variable {E : XK} {k n : Nat} {f : Addr} {fd : FuncData} {ps : List Str} {mf : MF} {x : Str} {es : List Expr} {mr : MA} {p : Pos}
end
end M

namespace M
open PySem PySem.Spec PyProof.Rows L2
open PySem.Builtin PySem.Builtin.Int PySem.Builtin.Float
variable {X : Cx} {T : Tx} {W : WX} {a b c : Expr} {ma mb mc : ME} {mt mu : MT} {ms mv : MS} {pos : Pos} {st : Stmt} {rest sts : List Stmt}
variable {av av' : Av} {r r' r2 : List Addr} {H H' H2 : Hp} {m m' : Mem} {tg iter : Expr}
noncomputable def isStr (x : PV) (_ : Mem) : Bool := match x with
  | .str _ => true
  | _ => false
end M

namespace M
open PySem PySem.Spec PyProof.Rows L2
variable {X : Cx} {T : Tx} {W : WX} {a b c : Expr} {ma mb mc : ME} {mt mu : MT} {ms mv : MS} {pos : Pos} {st : Stmt} {rest sts : List Stmt}
variable {av av' : Av} {r r' r2 : List Addr} {H H' H2 : Hp} {m m' : Mem} {tg iter : Expr}
end M

namespace M
open PySem PySem.Spec PyProof.Rows L2
variable {X : Cx} {T : Tx} {W : WX} {a b c : Expr} {ma mb mc : ME} {mt mu : MT} {ms mv : MS} {pos : Pos} {st : Stmt} {rest sts : List Stmt}
variable {av av' : Av} {r r' r2 : List Addr} {H H' H2 : Hp} {m m' : Mem} {tg iter : Expr}
noncomputable def KRow (K : PySem.W.Frag) (d : Addr) (z : Str) : Option Int → Prop
  | some i => ∃ u, PySem.W.nsIn K d z = some (some u) ∧ RelV (.int i) u
  | none => PySem.W.nsIn K d z = some none
structure KTab (K : PySem.W.Frag) (w : World) (d : Addr) (kvs : List (Str × Int)) : Prop where
  dct : ∃ es n, KDict K w d es n
  row : ∀ z, KRow K d z (kvs.lookup z)
noncomputable def valI (K : PySem.W.Frag) (d : Addr) (kvs : List (Str × Int)) : Bool := kvs.all fun q => match PySem.W.nsIn K d q.1 with
  | some (some (.int i _)) => i == q.2
  | _ => false
theorem key_miss {P : Params} {z : Str} : ∀ {l : List DictEntry} {ks : List Str}, l.map He.keyOf = He.keysIn P ks → z ∉ ks → l.find? (·.key.isStr z) = none ∧ l.any (·.refKey) = false
  | [], _, _, _ => ⟨rfl, rfl⟩
  | e :: l, [], h, _ => by cases h
  | e :: l, k :: ks, h, hz => by
    have h1 : He.keyOf e :: l.map He.keyOf = some (k, PyData.keyHash P k) :: He.keysIn P ks := h
    injection h1 with h2 h3
    obtain ⟨q1, q2⟩ := key_miss h3 (fun x => hz (List.mem_cons_of_mem _ x))
    unfold He.keyOf at h2
    split at h2
    · rename_i x t q
      have h4 := Option.some.inj h2
      obtain ⟨h5, h6⟩ := Prod.mk.inj h4
      have ne : (x == z) = false := by
        rw [beq_eq_false_iff_ne]
        intro y
        exact hz (by rw [← y, h5]; exact List.mem_cons_self)
      constructor
      · rw [List.find?_cons_of_neg (by rw [q]; show ¬ (x == z) = true; rw [ne]; decide)]
        exact q1
      · rw [List.any_cons, q2, Bool.or_false]
        unfold DictEntry.refKey
        rw [q]
    · cases h2
theorem ktab_of {K : PySem.W.Frag} {w : World} {d : Addr} {kvs : List (Str × Int)} (h1 : He.dicW K d = some (He.keysIn w.params (kvs.map (·.1)))) (h2 : valI K d kvs = true) (nd : (kvs.map (·.1)).Nodup) : KTab K w d kvs := by
  obtain ⟨es, n, D⟩ := He.dicW_ok h1
  refine ⟨⟨es, n, D⟩, fun z => ?_⟩
  cases hz : kvs.lookup z with
  | some i =>
    have hm : (z, i) ∈ kvs := by
      clear h1 h2 nd
      induction kvs with
      | nil => cases hz
      | cons q l ih =>
        obtain ⟨k, j⟩ := q
        rw [List.lookup_cons] at hz
        cases e : z == k with
        | true =>
          rw [e] at hz
          have e1 := eq_of_beq e
          cases hz
          rw [e1]
          exact List.mem_cons_self
        | false =>
          rw [e] at hz
          exact List.mem_cons_of_mem _ (ih hz)
    have q := List.all_eq_true.mp h2 _ hm
    show ∃ u, PySem.W.nsIn K d z = some (some u) ∧ RelV (.int i) u
    dsimp only at q
    split at q
    · rename_i j t e
      exact ⟨_, e, t, by rw [eq_of_beq q]⟩
    · cases q
  | none =>
    have hm : z ∉ kvs.map (·.1) := by
      clear h1 h2 nd
      induction kvs with
      | nil => simp
      | cons q l ih =>
        obtain ⟨k, j⟩ := q
        rw [List.lookup_cons] at hz
        cases e : z == k with
        | true => rw [e] at hz; cases hz
        | false =>
          rw [e] at hz
          rw [List.map_cons, List.mem_cons, not_or]
          exact ⟨fun y => by rw [y] at e; simp at e, ih hz⟩
    show PySem.W.nsIn K d z = some none
    have e1 : es.toList.map He.keyOf = He.keysIn w.params (kvs.map (·.1)) := by
      unfold He.dicW at h1
      rw [D.at_] at h1
      dsimp only at h1
      rw [D.low] at h1
      exact Option.some.inj h1
    obtain ⟨q1, q2⟩ := key_miss e1 hm
    unfold PySem.W.nsIn
    rw [D.at_]
    dsimp only
    rw [q1]
    dsimp only
    rw [q2]
    rfl
noncomputable def fInK (k : Nat) (kvs : List (Str × Int)) (neg : Bool) : PV → PV → Mem → Option PV := fun x y _ => match x, y with
  | .str z, .glo j => if j == k then some (.bl (if neg then !(kvs.lookup z).isSome else (kvs.lookup z).isSome)) else none
  | _, _ => none
theorem KRow.get {K : PySem.W.Frag} {d : Addr} {z : Str} {o : Option Int} (h : KRow K d z o) : ∃ q, PySem.W.nsIn K d z = some q ∧ q.isSome = o.isSome := by
  cases o with
  | some i => obtain ⟨u, e, _⟩ := h; exact ⟨_, e, rfl⟩
  | none => exact ⟨_, h, rfl⟩
theorem om_notInK {k : Nat} {d : Addr} {kvs : List (Str × Int)} (hg : T.g k = .ref d) (D : KTab X.K X.w d kvs) : OpM X T (compareOp .NotIn) (fInK k kvs true) := by
  obtain ⟨es, n, KD⟩ := D.dct
  refine ⟨_, op_notIn_kd KD, fun {av r H m x y z v w Q} rm rv rw e k => ?_⟩
  unfold fInK at e
  split at e
  · rename_i s j
    split at e
    · rename_i hj
      obtain ⟨q, e1, e2⟩ := (D.row s).get
      have hy := eq_of_beq hj
      subst hy
      unfold RV at rw
      refine ⟨s, q, rv.str', by rw [rw, hg], e1, ?_⟩
      cases e
      exact k r H _ .refl rm (by unfold RV; rw [e2]; rfl)
    · cases e
  · cases e
noncomputable def fIxK (k : Nat) (kvs : List (Str × Int)) : PV → PV → Mem → Option PV := fun x y _ => match x, y with
  | .glo j, .str z => if j == k then (kvs.lookup z).map PV.int else none
  | _, _ => none
theorem im_K {k : Nat} {d : Addr} {kvs : List (Str × Int)} (hg : T.g k = .ref d) (D : KTab X.K X.w d kvs) : IxM X T (fIxK k kvs) := by
  refine ⟨_, ix_kdict, fun {av r H m x y z v w Q} rm rv rw e k => ?_⟩
  unfold fIxK at e
  split at e
  · rename_i j s
    split at e
    · rename_i hj
      have hy := eq_of_beq hj
      subst hy
      unfold RV at rv
      have row := D.row s
      cases hl : kvs.lookup s with
      | none => rw [hl] at e; cases e
      | some i =>
        rw [hl] at e row
        cases e
        obtain ⟨u, e1, ru⟩ := row
        obtain ⟨es, n, KD⟩ := D.dct
        exact ⟨d, s, .int i, by rw [rv, hg], rw.str', ⟨es, n, u, KD.at_, KD.lit, e1, ru⟩, k r H _ .refl rm rv_int⟩
    · cases e
  · cases e
end M

namespace PySem
namespace MxD
open Sem (wp)
theorem args (a d : Value) : argsOk "max" ⟨[a], [(Str.ofString "default", d)]⟩ := by unfold argsOk; kernel_rfl
noncomputable def Best (P : Nat → Value → Prop) (bt : Nat → Nat → Bool) (j : Nat) : Option Value → Prop
  | none => j = 0
  | some v => 0 < j ∧ P (argBest bt (j - 1)) v
noncomputable def heldIn (ob : Option Value) : Array Value := match ob with
  | none => #[]
  | some v => #[v, v]
section
variable {prog : Program} {w : World} {A : Around} {R : Result → Shared → Prop} {I : Addr} {fp wr : List Addr} {n : Nat} {P : Nat → Value → Prop} {St : Nat → Heap → Prop}
theorem run (W : Walks prog w A.in1 I fp wr n P St) (bt : Nat → Nat → Bool) (hcmp : CmpOf prog w A.in1 .Gt P bt) (S : Addr) (hSf : S ∉ fp) {dn : Str} {d : Value} :
    ∀ (k j : Nat) (s : Shared) (c : Nat) (ob : Option Value), n = j + k → St j s.heap → Best P bt j ob → s.heap.get? S = some { cls := .type "list", dict := none, data := .seq (heldIn ob) c, slots := #[] } →
    (∀ v h' tk, (n = 0 ∧ v = d) ∨ (0 < n ∧ P (argBest bt (n - 1)) v) → (∀ b o, b ∉ wr → b ≠ S → s.heap.get? b = some o → h'.get? b = some o) → R (.ok (.ret v)) { s with heap := h', toks := tk }) →
    codeAny (model prog w) A (.builtin "max.loop" ⟨[.ref I, .none, .ref S], [(dn, d)]⟩) R s := by
  have hSw : S ∉ wr := fun h => hSf (W.sub _ h)
  have nm : (toString "max" ++ toString ".loop" : String) = "max.loop" := by decide
  intro k
  induction k with
  | zero =>
    intro j s c ob hk hst hB hS hR
    have hj : j = n := by omega
    subst hj
    refine codeAny_builtin F.entry_max_loop ?_
    rw [Around.under_plainId F.plain_max_loop _]
    show wpAny _ A.in1 (seqItems? (.ref S) >>= _) _ _ s
    refine wpAny_bind (wpAny_seqItems hS rfl ?_)
    show wpAny _ A.in1 (tryCatch (pyNext (.ref I)) _ >>= _) _ _ s
    refine wpAny_bind (wpAny_tryCatch (W.done s _ _ hst fun h' tk keep => ?_))
    have hS' := keep S _ hSw hS
    cases ob with
    | none =>
      have z : j = 0 := hB
      show wpAny _ A.in1 (rule _ >>= _) _ _ _
      exact wpAny_bind (wpAny_rule (wpAny_pure (hR d _ tk (.inl ⟨z, rfl⟩) fun b o n1 n2 e => keep b o n1 e)))
    | some v =>
      obtain ⟨z, hp⟩ := (show 0 < j ∧ P (argBest bt (j - 1)) v from hB)
      have hS' : h'.get? S = some { cls := .type "list", dict := none, data := .seq #[v, v] c, slots := #[] } := hS'
      show wpAny _ A.in1 (updateSeq S (fun _ => #[]) >>= _) _ _ _
      refine wpAny_bind (wpAny_updateSeq hS' rfl (wpAny_bind (wpAny_letGo (wpAny_pure ?_))))
      exact hR v _ tk (.inr ⟨z, hp⟩) fun b o n1 n2 e => (Heap.get?_update_other _ _ (Ne.symm n2)).trans (keep b o n1 e)
  | succ k ih =>
    intro j s c ob hk hst hB hS hR
    have hlt : j < n := by omega
    refine codeAny_builtin F.entry_max_loop ?_
    rw [Around.under_plainId F.plain_max_loop _]
    show wpAny _ A.in1 (seqItems? (.ref S) >>= _) _ _ s
    refine wpAny_bind (wpAny_seqItems hS rfl ?_)
    show wpAny _ A.in1 (tryCatch (pyNext (.ref I)) _ >>= _) _ _ s
    refine wpAny_bind (wpAny_tryCatch (W.item j s _ _ hlt hst fun v h' tk hP hst' keep => ?_))
    have hS' := keep S _ hSw hS
    cases ob with
    | none =>
      have z : j = 0 := hB
      subst z
      show wpAny _ A.in1 (updateSeq S (fun _ => #[v, v]) >>= _) _ _ _
      refine wpAny_bind (wpAny_updateSeq hS' rfl ?_)
      rw [nm]
      refine wpAny_pure ⟨plainId_quiet F.plain_max_loop _, ih 1 _ _ (some v) (by omega) (W.frame _ _ _ hst' fun b hb o e => (Heap.get?_update_other _ _ (fun h : S = b => hSf (by rw [h]; exact hb))).trans e) ⟨by omega, hP⟩ (Heap.get?_update_self _ hS' rfl) fun v' h2 tk2 hp keep2 => ?_⟩
      exact hR v' h2 tk2 hp fun b o n1 n2 e => keep2 b o n1 n2 ((Heap.get?_update_other _ _ (Ne.symm n2)).trans (keep b o n1 e))
    | some vb =>
      obtain ⟨z, hp0⟩ := (show 0 < j ∧ P (argBest bt (j - 1)) vb from hB)
      obtain ⟨i, rfl⟩ : ∃ i, j = i + 1 := ⟨j - 1, by omega⟩
      have hp0 : P (argBest bt i) vb := hp0
      have hS' : h'.get? S = some { cls := .type "list", dict := none, data := .seq #[vb, vb] c, slots := #[] } := hS'
      show wpAny _ A.in1 (tryCatch (holding [v, v] (richCompare .Gt v vb >>= _)) _ >>= _) _ _ _
      refine wpAny_bind (wpAny_tryCatch (wpAny_holding (wpAny_bind (hcmp (i + 1) (argBest bt i) v vb _ _ _ hP hp0 ?_))))
      refine wpAny_bind (wpAny_holding (wpAny_truthy_bool ?_))
      refine wpAny_bind (wpAny_letGo (wpAny_pure ?_))
      cases hb : bt (i + 1) (argBest bt i) with
      | true =>
        simp only [if_true]
        refine wpAny_bind (wpAny_updateSeq hS' rfl (wpAny_bind (wpAny_letGo ?_)))
        rw [nm]
        refine wpAny_pure ⟨plainId_quiet F.plain_max_loop _, ih (i + 2) _ _ (some v) (by omega) (W.frame _ _ _ hst' fun b hb o e => (Heap.get?_update_other _ _ (fun h : S = b => hSf (by rw [h]; exact hb))).trans e) ⟨by omega, ?_⟩ (Heap.get?_update_self _ hS' rfl) fun v' h2 tk2 hp keep2 => ?_⟩
        · show P (argBest bt (i + 1)) v
          simp only [argBest, hb, if_true]
          exact hP
        · exact hR v' h2 tk2 hp fun b o n1 n2 e => keep2 b o n1 n2 ((Heap.get?_update_other _ _ (Ne.symm n2)).trans (keep b o n1 e))
      | false =>
        simp only [Bool.false_eq_true, if_false]
        refine wpAny_bind (wpAny_letGo ?_)
        rw [nm]
        refine wpAny_pure ⟨plainId_quiet F.plain_max_loop _, ih (i + 2) _ c (some vb) (by omega) hst' ⟨by omega, ?_⟩ hS' fun v' h2 tk2 hp keep2 => ?_⟩
        · show P (argBest bt (i + 1)) vb
          simp only [argBest, hb, Bool.false_eq_true, if_false]
          exact hp0
        · exact hR v' h2 tk2 hp fun b o n1 n2 e => keep2 b o n1 n2 (keep b o n1 e)
end
section
variable {prog : Program} {w : World} {A : Around} {E : Value → Shared → Prop} {s : Shared} {l : Addr} {xs : Array (Int × Tok)}
end
end MxD
end PySem
namespace M
open PySem PySem.Spec PyProof.Rows L2
variable {X : Cx} {T : Tx} {W : WX} {a b c : Expr} {ma mb mc : ME} {mt mu : MT} {ms mv : MS} {pos : Pos} {st : Stmt} {rest sts : List Stmt}
variable {av av' : Av} {r r' r2 : List Addr} {H H' H2 : Hp} {m m' : Mem} {tg iter : Expr}
end M

namespace M
open PySem PySem.Spec PyProof.Rows L2
variable {X : Cx} {T : Tx} {W : WX} {a b c : Expr} {ma mb mc : ME} {mt mu : MT} {ms mv : MS} {pos : Pos} {st : Stmt} {rest sts : List Stmt}
variable {av av' : Av} {r r' r2 : List Addr} {H H' H2 : Hp} {m m' : Mem} {tg iter : Expr}
noncomputable def orF2 (f g : List PV → Mem → Option (List PV)) : List PV → Mem → Option (List PV) := fun xs m => match f xs m with
  | some z => some z
  | none => g xs m
theorem ClF.or {fv : Value} {f g : List PV → Mem → Option (List PV)} (h : ClF X T fv f) (h' : ClF X T fv g) : ClF X T fv (orF2 f g) := by
  obtain ⟨r1, o1, k1⟩ := h
  obtain ⟨r2, o2, k2⟩ := h'
  refine ⟨_, M.CallR.either o1 o2, fun {av r H m xs z vs Q} rm rv e k => ?_⟩
  unfold orF2 at e
  split at e
  · rename_i z' hz
    exact .inl (k1 rm rv (hz.trans e) k)
  · exact .inr (k2 rm rv e k)
noncomputable def cSortDI : List PV → Mem → Option (List PV)
  | [x], m => match dctOf x m with
    | some (ks, _) => if flatKs ks && Nat.ble ks.length 63 then (match intsOf ks with
      | some ns => some ((sortI ns).map PV.int)
      | none => none) else none
    | none => none
  | _, _ => none
theorem intsOf_int : ∀ ns : List Int, intsOf (ns.map PV.int) = some ns
  | [] => rfl
  | n :: ns => by
    show (match intsOf (ns.map PV.int) with
      | some q => some (n :: q)
      | none => none) = some (n :: ns)
    rw [intsOf_int ns]
theorem keys_ints : ∀ {kvs : List (Key × V)} {ns : List Int}, intsOf (ksOf kvs) = some ns → kvs.map (·.1) = ns.map Sum.inl
  | [], ns, h => by
    have q := intsOf_eq h
    cases ns with
    | nil => rfl
    | cons n ns => cases q
  | (k, v) :: kvs, ns, h => by
    have q := intsOf_eq h
    cases ns with
    | nil => cases q
    | cons n ns =>
      rw [List.map_cons] at q
      have q1 : keyP k :: ksOf kvs = PV.int n :: ns.map PV.int := q
      injection q1 with q2 q3
      have e1 : k = Sum.inl n := by
        cases k with
        | inl i => injection q2 with q4; rw [q4]
        | inr s => cases q2
      have ih : kvs.map (·.1) = ns.map Sum.inl := keys_ints (by
        rw [q3]
        exact intsOf_int ns)
      rw [List.map_cons, List.map_cons, ih, e1]
theorem cf_sortDI (hc : X.calm = true) : ClF X T (.builtin "sorted") cSortDI := by
  refine ⟨_, call_sortedDI hc, fun {av r H m xs z vs Q} rm rv e k => ?_⟩
  unfold cSortDI at e
  split at e
  · split at e
    · rename_i x m ks ws hd
      split at e
      · rename_i hk
        rw [Bool.and_eq_true] at hk
        split at e
        · rename_i ns hn
          cases e
          obtain ⟨v, rfl, hv⟩ := rvs1 rv
          obtain ⟨a, vs, rfl, d, hw⟩ := dctOf_ok rm hv hd
          obtain ⟨kvs, h1, h2, h3⟩ := dk_flat d hk.1
          subst h2 h3
          have e1 := keys_ints hn
          have hl : ns.length < 64 := by
            have q := Nat.le_of_ble_eq_true hk.2
            have q2 := congrArg List.length (intsOf_eq hn)
            have q3 : (ns.map PV.int).length = ns.length := List.length_map ..
            omega
          refine ⟨a, kvs, ns, rfl, h1, e1, hl, fun ys p hp hu hq => ?_⟩
          rw [sortI_of hp hu]
          exact kf_new rm hq (rvs_intsB _) k
        · cases e
      · cases e
    · cases e
  · cases e
end M

namespace PySem
namespace MnD
open Sem (wp)
theorem args (a d : Value) : argsOk "min" ⟨[a], [(Str.ofString "default", d)]⟩ := by unfold argsOk; kernel_rfl
noncomputable def Best (P : Nat → Value → Prop) (bt : Nat → Nat → Bool) (j : Nat) : Option Value → Prop
  | none => j = 0
  | some v => 0 < j ∧ P (argBest bt (j - 1)) v
noncomputable def heldIn (ob : Option Value) : Array Value := match ob with
  | none => #[]
  | some v => #[v, v]
section
variable {prog : Program} {w : World} {A : Around} {R : Result → Shared → Prop} {I : Addr} {fp wr : List Addr} {n : Nat} {P : Nat → Value → Prop} {St : Nat → Heap → Prop}
theorem run (W : Walks prog w A.in1 I fp wr n P St) (bt : Nat → Nat → Bool) (hcmp : CmpOf prog w A.in1 .Lt P bt) (S : Addr) (hSf : S ∉ fp) {dn : Str} {d : Value} :
    ∀ (k j : Nat) (s : Shared) (c : Nat) (ob : Option Value), n = j + k → St j s.heap → Best P bt j ob → s.heap.get? S = some { cls := .type "list", dict := none, data := .seq (heldIn ob) c, slots := #[] } →
    (∀ v h' tk, (n = 0 ∧ v = d) ∨ (0 < n ∧ P (argBest bt (n - 1)) v) → (∀ b o, b ∉ wr → b ≠ S → s.heap.get? b = some o → h'.get? b = some o) → R (.ok (.ret v)) { s with heap := h', toks := tk }) →
    codeAny (model prog w) A (.builtin "min.loop" ⟨[.ref I, .none, .ref S], [(dn, d)]⟩) R s := by
  have hSw : S ∉ wr := fun h => hSf (W.sub _ h)
  have nm : (toString "min" ++ toString ".loop" : String) = "min.loop" := by decide
  intro k
  induction k with
  | zero =>
    intro j s c ob hk hst hB hS hR
    have hj : j = n := by omega
    subst hj
    refine codeAny_builtin F.entry_min_loop ?_
    rw [Around.under_plainId F.plain_min_loop _]
    show wpAny _ A.in1 (seqItems? (.ref S) >>= _) _ _ s
    refine wpAny_bind (wpAny_seqItems hS rfl ?_)
    show wpAny _ A.in1 (tryCatch (pyNext (.ref I)) _ >>= _) _ _ s
    refine wpAny_bind (wpAny_tryCatch (W.done s _ _ hst fun h' tk keep => ?_))
    have hS' := keep S _ hSw hS
    cases ob with
    | none =>
      have z : j = 0 := hB
      show wpAny _ A.in1 (rule _ >>= _) _ _ _
      exact wpAny_bind (wpAny_rule (wpAny_pure (hR d _ tk (.inl ⟨z, rfl⟩) fun b o n1 n2 e => keep b o n1 e)))
    | some v =>
      obtain ⟨z, hp⟩ := (show 0 < j ∧ P (argBest bt (j - 1)) v from hB)
      have hS' : h'.get? S = some { cls := .type "list", dict := none, data := .seq #[v, v] c, slots := #[] } := hS'
      show wpAny _ A.in1 (updateSeq S (fun _ => #[]) >>= _) _ _ _
      refine wpAny_bind (wpAny_updateSeq hS' rfl (wpAny_bind (wpAny_letGo (wpAny_pure ?_))))
      exact hR v _ tk (.inr ⟨z, hp⟩) fun b o n1 n2 e => (Heap.get?_update_other _ _ (Ne.symm n2)).trans (keep b o n1 e)
  | succ k ih =>
    intro j s c ob hk hst hB hS hR
    have hlt : j < n := by omega
    refine codeAny_builtin F.entry_min_loop ?_
    rw [Around.under_plainId F.plain_min_loop _]
    show wpAny _ A.in1 (seqItems? (.ref S) >>= _) _ _ s
    refine wpAny_bind (wpAny_seqItems hS rfl ?_)
    show wpAny _ A.in1 (tryCatch (pyNext (.ref I)) _ >>= _) _ _ s
    refine wpAny_bind (wpAny_tryCatch (W.item j s _ _ hlt hst fun v h' tk hP hst' keep => ?_))
    have hS' := keep S _ hSw hS
    cases ob with
    | none =>
      have z : j = 0 := hB
      subst z
      show wpAny _ A.in1 (updateSeq S (fun _ => #[v, v]) >>= _) _ _ _
      refine wpAny_bind (wpAny_updateSeq hS' rfl ?_)
      rw [nm]
      refine wpAny_pure ⟨plainId_quiet F.plain_min_loop _, ih 1 _ _ (some v) (by omega) (W.frame _ _ _ hst' fun b hb o e => (Heap.get?_update_other _ _ (fun h : S = b => hSf (by rw [h]; exact hb))).trans e) ⟨by omega, hP⟩ (Heap.get?_update_self _ hS' rfl) fun v' h2 tk2 hp keep2 => ?_⟩
      exact hR v' h2 tk2 hp fun b o n1 n2 e => keep2 b o n1 n2 ((Heap.get?_update_other _ _ (Ne.symm n2)).trans (keep b o n1 e))
    | some vb =>
      obtain ⟨z, hp0⟩ := (show 0 < j ∧ P (argBest bt (j - 1)) vb from hB)
      obtain ⟨i, rfl⟩ : ∃ i, j = i + 1 := ⟨j - 1, by omega⟩
      have hp0 : P (argBest bt i) vb := hp0
      have hS' : h'.get? S = some { cls := .type "list", dict := none, data := .seq #[vb, vb] c, slots := #[] } := hS'
      show wpAny _ A.in1 (tryCatch (holding [v, v] (richCompare .Lt v vb >>= _)) _ >>= _) _ _ _
      refine wpAny_bind (wpAny_tryCatch (wpAny_holding (wpAny_bind (hcmp (i + 1) (argBest bt i) v vb _ _ _ hP hp0 ?_))))
      refine wpAny_bind (wpAny_holding (wpAny_truthy_bool ?_))
      refine wpAny_bind (wpAny_letGo (wpAny_pure ?_))
      cases hb : bt (i + 1) (argBest bt i) with
      | true =>
        simp only [if_true]
        refine wpAny_bind (wpAny_updateSeq hS' rfl (wpAny_bind (wpAny_letGo ?_)))
        rw [nm]
        refine wpAny_pure ⟨plainId_quiet F.plain_min_loop _, ih (i + 2) _ _ (some v) (by omega) (W.frame _ _ _ hst' fun b hb o e => (Heap.get?_update_other _ _ (fun h : S = b => hSf (by rw [h]; exact hb))).trans e) ⟨by omega, ?_⟩ (Heap.get?_update_self _ hS' rfl) fun v' h2 tk2 hp keep2 => ?_⟩
        · show P (argBest bt (i + 1)) v
          simp only [argBest, hb, if_true]
          exact hP
        · exact hR v' h2 tk2 hp fun b o n1 n2 e => keep2 b o n1 n2 ((Heap.get?_update_other _ _ (Ne.symm n2)).trans (keep b o n1 e))
      | false =>
        simp only [Bool.false_eq_true, if_false]
        refine wpAny_bind (wpAny_letGo ?_)
        rw [nm]
        refine wpAny_pure ⟨plainId_quiet F.plain_min_loop _, ih (i + 2) _ c (some vb) (by omega) hst' ⟨by omega, ?_⟩ hS' fun v' h2 tk2 hp keep2 => ?_⟩
        · show P (argBest bt (i + 1)) vb
          simp only [argBest, hb, Bool.false_eq_true, if_false]
          exact hp0
        · exact hR v' h2 tk2 hp fun b o n1 n2 e => keep2 b o n1 n2 (keep b o n1 e)
end
section
variable {prog : Program} {w : World} {A : Around} {E : Value → Shared → Prop} {s : Shared} {l : Addr} {xs : Array (Int × Tok)}
end
end MnD
end PySem
namespace M
open PySem PySem.Spec PyProof.Rows L2
variable {X : Cx} {T : Tx} {W : WX} {a b c : Expr} {ma mb mc : ME} {mt mu : MT} {ms mv : MS} {pos : Pos} {st : Stmt} {rest sts : List Stmt}
variable {av av' : Av} {r r' r2 : List Addr} {H H' H2 : Hp} {m m' : Mem} {tg iter : Expr}
end M

namespace M
open PySem PySem.Spec PyProof.Rows L2
variable {X : Cx} {T : Tx} {W : WX} {a b c : Expr} {ma mb mc : ME} {mt mu : MT} {ms mv : MS} {pos : Pos} {st : Stmt} {rest sts : List Stmt}
variable {av av' : Av} {r r' r2 : List Addr} {H H' H2 : Hp} {m m' : Mem} {tg iter : Expr}
mutual
noncomputable def KeyV (K : PySem.W.Frag) (H : Hp) : NestedKey → V → Prop
  | .none, v => v = .non
  | .num i, v => v = .int i
  | .text x, v => v = .str x
  | .tup ks, v => ∃ a vs, v = .ref a ∧ (H a = some (.tup vs) ∨ Kt K a vs ∨ ∃ o, H a = some (.frz o (.tup vs))) ∧ KeyVs K H ks vs
noncomputable def KeyVs (K : PySem.W.Frag) (H : Hp) : List NestedKey → List V → Prop
  | [], vs => vs = []
  | k :: ks, vs => ∃ v ws, vs = v :: ws ∧ KeyV K H k v ∧ KeyVs K H ks ws
end
mutual
theorem keyV_ok : ∀ (x : PV) {k : NestedKey} {v : V}, nkOf x = some k → RV T av r H x v → KeyV T.K H k v
  | .non, k, v, e, h => by
    unfold nkOf at e; cases e
    unfold RV at h; unfold KeyV; exact h
  | .int i, k, v, e, h => by
    unfold nkOf at e; cases e
    unfold RV at h; unfold KeyV; exact h
  | .str i, k, v, e, h => by
    unfold nkOf at e; cases e
    unfold RV at h; unfold KeyV; exact h
  | .tup xs, k, v, e, h => by
    unfold nkOf at e
    obtain ⟨ks, e1, rfl⟩ := Option.map_eq_some_iff.mp e
    unfold RV at h
    obtain ⟨a, vs, rfl, h1, h2⟩ := h
    rcases h1 with ⟨_, d⟩ | ⟨_, d⟩ | ⟨_, _, d⟩
    · unfold KeyV
      exact ⟨a, vs, rfl, .inl d, keyVs_ok xs e1 h2⟩
    · unfold KeyV
      exact ⟨a, vs, rfl, .inr (.inl d), keyVs_ok xs e1 h2⟩
    · unfold KeyV
      exact ⟨a, vs, rfl, .inr (.inr d), keyVs_ok xs e1 h2⟩
  | .bl _, _, _, e, _ => by unfold nkOf at e; cases e
  | .lst _, _, _, e, _ => by unfold nkOf at e; cases e
  | .ins _ _, _, _, e, _ => by unfold nkOf at e; cases e
  | .dtt _ _, _, _, e, _ => by unfold nkOf at e; cases e
  | .dct _ _, _, _, e, _ => by unfold nkOf at e; cases e
  | .glo _, _, _, e, _ => by unfold nkOf at e; cases e
  | .lam _, _, _, e, _ => by unfold nkOf at e; cases e
  | .opq, _, _, e, _ => by unfold nkOf at e; cases e
  | .ftup _, _, _, e, _ => by unfold nkOf at e; cases e
  | .clo0 _, _, _, e, _ => by unfold nkOf at e; cases e
  | .clo _ _, _, _, e, _ => by unfold nkOf at e; cases e
  | .ref _, _, _, e, _ => by unfold nkOf at e; cases e
  | .exn _ _, _, _, e, _ => by unfold nkOf at e; cases e
  | .kst _, _, _, e, _ => by unfold nkOf at e; cases e
theorem keyVs_ok : ∀ (xs : List PV) {ks : List NestedKey} {vs : List V}, nksOf xs = some ks → RVs T av r H xs vs → KeyVs T.K H ks vs
  | [], ks, vs, e, h => by
    unfold nksOf at e; cases e
    unfold RVs at h; unfold KeyVs; exact h
  | x :: xs, ks, vs, e, h => by
    unfold nksOf at e
    split at e
    · rename_i k ks' e1 e2
      cases e
      unfold RVs at h
      obtain ⟨v, ws, rfl, h1, h2⟩ := h
      unfold KeyVs
      exact ⟨v, ws, rfl, keyV_ok x e1 h1, keyVs_ok xs e2 h2⟩
    · cases e
end
section
variable {pins : List (Addr × Obj)} {σ : L2.St} {s : Shared}
mutual
theorem nested_is (I : Inv X pins σ H s) : ∀ (k : NestedKey) {v : V} {u : Value}, KeyV X.K H k v → RelV v u → NestedIs s.heap k u
  | .none, v, u, h, q => by
    unfold KeyV at h; subst h
    obtain rfl : u = Value.none := q
    exact .none
  | .num i, v, u, h, q => by
    unfold KeyV at h; subst h
    obtain ⟨t, rfl⟩ := (show ∃ t, u = Value.int i t from q)
    exact .int i t
  | .text x, v, u, h, q => by
    unfold KeyV at h; subst h
    obtain ⟨t, rfl⟩ := (show ∃ t, u = Value.str x t from q)
    exact .text x t
  | .tup ks, v, u, h, q => by
    unfold KeyV at h
    obtain ⟨a, vs, rfl, d, hs⟩ := h
    obtain rfl : u = Value.ref a := q
    rcases d with d | ⟨o, its, n, h1, h2, h3, _, hv⟩ | ⟨ob, d⟩
    · obtain ⟨_, its, hv, ht⟩ := (show vs.length ≤ sizeLine ∧ ∃ its : List Value, Vals vs its ∧ IsTup s.heap a its.toArray from I.hok a _ d)
      obtain ⟨o, h1, h2, n, h3⟩ := ht
      exact .tup h1 h2 h3 (nested_all I ks hs hv)
    · exact .tup (I.kIn a o h1) h2 h3 (nested_all I ks hs (by simpa using hv))
    · obtain ⟨_, _, its, hv, ht⟩ := (show ObjOk X.prog X.w H s.heap a (.frz ob (.tup vs)) from I.hok a _ d)
      obtain ⟨o, h1, h2, n, h3⟩ := ht
      exact .tup h1 h2 h3 (nested_all I ks hs hv)
theorem nested_all (I : Inv X pins σ H s) : ∀ (ks : List NestedKey) {vs : List V} {us : List Value}, KeyVs X.K H ks vs → Vals vs us → NestedAll s.heap ks us
  | [], vs, us, h, q => by
    unfold KeyVs at h; subst h
    cases q
    exact .nil
  | k :: ks, vs, us, h, q => by
    unfold KeyVs at h
    obtain ⟨v, ws, rfl, h1, h2⟩ := h
    cases q with
    | cons q1 q2 => exact .cons (nested_is I k h1 q1) (nested_all I ks h2 q2)
end
end
end M

namespace M
open PySem PySem.Spec PyProof.Rows L2
variable {X : Cx} {T : Tx} {W : WX} {a b c : Expr} {ma mb mc : ME} {mt mu : MT} {ms mv : MS} {pos pos' : Pos} {st : Stmt} {rest sts : List Stmt}
variable {av av' : Av} {r r' r2 : List Addr} {H H' H2 : Hp} {m m' : Mem} {tg iter : Expr}
noncomputable abbrev NXs := List (NestedKey × Addr × Value)
noncomputable def NKs (K : PySem.W.Frag) (H : Hp) (xs : NXs) : Prop := ∀ x ∈ xs, KeyV K H x.1 (.ref x.2.1) ∧ x.1.depth ≤ 8
section
variable {pins : List (Addr × Obj)} {σ : L2.St} {s : Shared} {xs : NXs} {p q : Addr} {k : NestedKey} {A : Around} {E : Value → Shared → Prop}
structure NGet (X : Cx) (H : Hp) (p : Addr) (xs : NXs) (k : NestedKey) (q : Addr) : Prop where
  d : H p = some (.ext (NDict X.prog X.w p xs))
  ks : NKs X.K H xs
  ky : KeyV X.K H k (.ref q)
  dp : k.depth ≤ 8
end
section
variable {o i e value : Expr} {td ty tv : TE}
end
end M

namespace M
open PySem PySem.Spec PyProof.Rows L2
variable {X : Cx} {T : Tx} {W : WX} {a b c : Expr} {ma mb mc : ME} {mt mu : MT} {ms mv : MS} {pos : Pos} {st : Stmt} {rest sts : List Stmt}
variable {av av' : Av} {r r' r2 : List Addr} {H H' H2 : Hp} {m m' : Mem} {tg iter : Expr}
section
variable {pins : List (Addr × Obj)} {σ : L2.St} {s : Shared}
end
noncomputable def setN (k : NestedKey) (v : PV) : List PV → List PV → List PV
  | p :: ks, w :: ws => (match nkOf p with
    | some q => if NestedKey.beq q k then v else w
    | none => w) :: setN k v ks ws
  | _, ws => ws
end M

namespace M
open PySem PySem.Spec PyProof.Rows L2
variable {X : Cx} {T : Tx} {W : WX} {av : Av} {r : List Addr} {H : Hp} {m : Mem}
noncomputable def rRepW (K : PySem.W.Frag) : R2 := fun x y H Q => ∃ l k xs, x = .ref l ∧ y = .int k ∧ SqT K H l xs ∧ 0 < xs.length ∧ 2 ≤ k ∧ k.toNat * xs.length ≤ 1000000 ∧ ∀ p, H p = none → Q (.ref p) (upd H p (.tup (List.replicate k.toNat xs).flatten))
theorem op_repW : OpR X (binaryOp .Mult) (rRepW X.K) := fun pins s σ H x y v u Q I rx ry ⟨l, k, xs, ex, ey, hT, pos, two, small, q⟩ => by
  subst ex ey
  cases rx
  have ⟨t, eu⟩ := ry
  subst eu
  have ⟨its, rel, ⟨⟨cls, dd, data, sl⟩, ho, hc, n, hd⟩, _⟩ := I.tuple hT
  dsimp only at hc hd
  subst hc
  subst hd
  have len : its.length = xs.length := rel.length.symm
  have flat : (List.replicate k.toNat its).flatten.length ≤ sizeLine := by
    rw [lm_len_rep_flat, len, sizeLine_eq]; omega
  have flat2 : (List.replicate k.toNat xs).flatten.length ≤ sizeLine := by
    rw [lm_len_rep_flat, sizeLine_eq]; omega
  have kk : k = (k.toNat : Int) := (Int.toNat_of_nonneg (by omega)).symm
  have prod : ((its.toArray.size : Nat) : Int) * k ≤ 1000000 := by
    rw [List.size_toArray, len, kk, ← Int.natCast_mul, Nat.mul_comm]; omega
  have kle : k ≤ 1000000 := by
    have : k.toNat * 1 ≤ k.toNat * xs.length := Nat.mul_le_mul_left _ pos
    omega
  have em : its.toArray.isEmpty = false := by
    cases its with
    | nil => rw [← len] at pos; exact absurd pos (Nat.lt_irrefl 0)
    | cons a b => rfl
  have e1 : (decide (k < -(2 ^ 63)) || decide (k ≥ 2 ^ 63)) = false := by
    simp only [Bool.or_eq_false_iff, decide_eq_false_iff_not]; omega
  have e2 : (its.toArray.isEmpty || k == 1) = false := by
    rw [em]; simp only [Bool.false_or, beq_eq_false_iff_ne]; omega
  have e3 : (decide (k ≤ 0) || its.toArray.isEmpty) = false := by
    rw [em]; simp only [Bool.or_false, decide_eq_false_iff_not]; omega
  have e4 : Builtin.Tuple.tupleTooMany (((its.toArray.size : Nat) : Int) * k) = false := by
    simp only [Builtin.Tuple.tupleTooMany, sizeLine_eq, decide_eq_false_iff_not]; omega
  have fold := size_rep its k.toNat
  have mul := tuple_mulW l its.toArray n dd sl k t e1 e2 e3 (by omega) e4 (by rw [fold, List.size_toArray]; exact flat)
  refine wpAny_binaryOp_repeat_ref (T := "tuple") (U := "int") (by decide) ⟨_, ho, rfl⟩ (fun s' => typeIs_int s' k t) noFill_tuple_mul F.fills_int_mul F.slot_int_rmul repeat_tuple F.slot_int_index.lookup ?_
  refine call_meets F.slot_int_rmul (typeIs_int s k t) F.entry_int_rmul (F.args_int_rmul_2 _ _) (int_rmul_tuple k t l its.toArray n dd sl) ⟨ho, rfl, ⟨_, ho, rfl⟩, ?mul⟩
  refine call_meets F.slot_tuple_mul ⟨_, ho, rfl⟩ F.entry_tuple_mul (F.args_tuple_mul_2 _ _) mul ⟨ho, ?_⟩
  rw [fold]
  exact ⟨.ref s.heap.objs.size, _, I.laid (t' := s.toks) (o := .tup (List.replicate k.toNat xs).flatten) (fun b ob z => Heap.get?_push_of_some _ z) (Nat.le_refl _) ⟨flat2, _, rel.rep k.toNat, IsTup.new _ _⟩, rfl, q _ (I.hok.fresh (Nat.le_refl _))⟩
noncomputable def fRepW : PV → PV → Mem → Option PV := fun x y _ => match x, y with
  | .tup xs, .int k => if !xs.isEmpty && (decide (2 ≤ k) && Nat.ble (k.toNat * xs.length) 1000000) then some (.tup (List.replicate k.toNat xs).flatten) else none
  | _, _ => none
theorem om_repW (hK : X.K = T.K) : OpM X T (binaryOp .Mult) fRepW := by
  refine ⟨_, op_repW, fun {av r H m x y z v w Q} rm rv rw e k => ?_⟩
  unfold fRepW at e
  split at e
  · rename_i xs n
    split at e
    · rename_i hc
      cases e
      rw [Bool.and_eq_true, Bool.and_eq_true, decide_eq_true_eq] at hc
      obtain ⟨h1, h2, h3⟩ := hc
      obtain ⟨p, vs, rfl, hp, hv⟩ := tup_ok hK rv
      have pos : 0 < vs.length := by
        cases xs with
        | nil => cases h1
        | cons a b => rw [hv.length]; exact Nat.succ_pos _
      exact ⟨p, n, vs, rfl, rw.int', hp, pos, h2, by rw [hv.length]; exact Nat.le_of_ble_eq_true h3, fun q hq => ke_newT rm hq (RVs.rep hv _) k⟩
    · cases e
  · cases e
end M

namespace M
open PySem PySem.Spec PyProof.Rows L2
variable {X : Cx} {T : Tx} {W : WX} {av : Av} {r : List Addr} {H : Hp} {m : Mem}
noncomputable def cLenS : List PV → Mem → Option PV
  | [.str z], _ => if Nat.ble z.length 1000000 then some (.int z.length) else none
  | _, _ => none
theorem cm_lenS : ClM X T (.builtin "len") cLenS := by
  refine ⟨_, call_len_str, fun {av r H m xs z vs Q} rm rv e k => ?_⟩
  unfold cLenS at e
  split at e
  · split at e
    · rename_i hz
      cases e
      obtain ⟨v, rfl, h⟩ := rvs1 rv
      exact ⟨_, by rw [h.str'], Nat.le_trans (Nat.le_of_ble_eq_true hz) (by rw [sizeLine_eq]; decide), k r H _ .refl rm rv_int⟩
    · cases e
  · cases e
theorem call_lenDK : CallR X (.builtin "len") (fun xs H Q => ∃ p kvs, xs = [.ref p] ∧ Rd H p (.dK kvs) ∧ Q (.int kvs.length) H) := by
  intro pins s σ H xs us Q I rv h
  obtain ⟨p, kvs, rfl, hd, q⟩ := h
  obtain ⟨u, rfl, rx⟩ := vals1 rv
  obtain rfl : u = Value.ref p := rx
  exact d_len I hd fun t s' I' => ⟨.int kvs.length, H, I', ⟨t, rfl⟩, q⟩
noncomputable def cLenD : List PV → Mem → Option PV
  | [x], m => match dctOf x m with
    | some (ks, _) => if flatKs ks then some (.int ks.length) else none
    | none => none
  | _, _ => none
theorem cm_lenD : ClM X T (.builtin "len") cLenD := by
  refine ⟨_, call_lenDK, fun {av r H m xs z vs Q} rm rv e k => ?_⟩
  unfold cLenD at e
  split at e
  · split at e
    · rename_i ks ws hd
      split at e
      · rename_i hk
        cases e
        obtain ⟨v, rfl, h⟩ := rvs1 rv
        obtain ⟨a, vs, rfl, d, _⟩ := dctOf_ok rm h hd
        obtain ⟨kvs, h1, h2, _⟩ := dk_flat d hk
        refine ⟨a, kvs, rfl, h1, ?_⟩
        have q := k r H (.int (kvs.length : Nat)) .refl rm (by rw [h2]; show RV T av r H (.int ((ksOf kvs).length : Nat)) _; rw [show (ksOf kvs).length = kvs.length from List.length_map _]; exact rv_int)
        exact q
      · cases e
    · cases e
  · cases e
noncomputable def fIxS : PV → PV → Mem → Option PV := fun x y _ => match x, y with
  | .str z, .int i => if Nat.ble z.length 1000000 then (match atI z.cps.toList i with
    | some c => some (.str ⟨#[c]⟩)
    | none => none) else none
  | _, _ => none
theorem im_str : IxM X T fIxS := by
  refine ⟨_, ix_str, fun {av r H m x y z v w Q} rm rv rw0 e k => ?_⟩
  unfold fIxS at e
  split at e
  · rename_i s i
    split at e
    · rename_i hz
      split at e
      · rename_i c hc
        cases e
        exact ⟨s, i, c, rv.str', rw0.int', Nat.le_trans (Nat.le_of_ble_eq_true hz) (by rw [sizeLine_eq]; decide), hc, k r H _ .refl rm (by unfold RV; rfl)⟩
      · cases e
    · cases e
  · cases e
end M

namespace M
open PySem PySem.Spec PyProof.Rows L2
variable {X : Cx} {T : Tx} {W : WX} {a b : Expr} {pos : Pos}
variable {av av' : Av} {r r' r2 : List Addr} {H H' H2 : Hp} {m m' : Mem}
end M

namespace M
open PySem PySem.Spec PyProof.Rows L2
variable {X : Cx} {T : Tx} {W : WX} {a : Expr} {ma : ME}
variable {av : Av} {r r' : List Addr} {H H' : Hp} {m m' : Mem}
noncomputable def mTr0 (ma : ME) : ME := fun e m => match ma e m with
  | .ok v m' => if m.isEmpty && noRef v then .ok v [] else .ok v m'
  | .exc c ws m' => .exc c ws m'
  | .bad => .bad
theorem RM.letgo (h : RM T av r' H' m') : RM T av [] H' [] :=
  ⟨rfl, .nil, fun i o a h1 => by simp at h1, h.tb, fun a ha => h.th a (.inl (ha.elim id fun z => (List.not_mem_nil z).elim)), h.nt⟩
theorem Grow.letgo (g : Grow [] H r' H') : Grow [] H [] H' := ⟨⟨[], rfl, by simp⟩, g.keep, g.there⟩
theorem se_tr0 (ha : SE X T W a ma) : SE X T W a (mTr0 ma) :=
  ⟨PE.imp ha.pe fun σ H Q ⟨av, r, e, m, re, rm, h⟩ => ⟨av, r, e, m, re, rm, by
    unfold mTr0 at h
    split at h
    · rename_i v m' e1
      rw [e1]
      split at h
      · rename_i hc
        rw [Bool.and_eq_true] at hc
        have em : m = [] := List.isEmpty_iff.mp hc.1
        subst em
        have er : r = [] := List.eq_nil_of_length_eq_zero rm.len
        subst er
        exact fun r' H' w g rm' rv => h [] H' w g.letgo rm'.letgo (RV.move (fun b o _ => ⟨o.1, List.not_mem_nil⟩) (fun _ _ z _ => z) v hc.2 rv)
      · exact h
    · rename_i c ws m' e1
      rw [e1]; exact h
    · exact h.elim⟩⟩
end M

namespace M
open PySem PySem.Spec PyProof.Rows L2
variable {X : Cx} {T : Tx} {W : WX} {a b c : Expr} {ma mb mc : ME} {pos tpos : Pos}
variable {av av' : Av} {r r' r2 : List Addr} {H H' H2 : Hp} {m m' : Mem}
end M

namespace M
open PySem PySem.Spec PyProof.Rows L2
variable {X : Cx} {T : Tx} {W : WX} {a b c : Expr} {ma mb mc : ME} {pos : Pos}
variable {av av' : Av} {r r' r2 : List Addr} {H H' H2 : Hp} {m m' : Mem}
noncomputable def cListD : List PV → Mem → Option (List PV)
  | [x], m => match dctOf x m with
    | some (ks, _) => if flatKs ks then some ks else none
    | none => none
  | _, _ => none
theorem rvs_keys : ∀ kvs : List (Key × V), RVs T av r H (ksOf kvs) (kvs.map fun kv => kV kv.1)
  | [] => by show RVs T av r H [] []; unfold RVs; rfl
  | kv :: kvs => by
    show RVs T av r H (keyP kv.1 :: ksOf kvs) (kV kv.1 :: _)
    unfold RVs
    refine ⟨_, _, rfl, ?_, rvs_keys kvs⟩
    cases kv.1 with
    | inl i => exact rv_int
    | inr s => show RV T av r H (.str s) (.str s); unfold RV; rfl
theorem cf_listD (hc : X.calm = true) : ClF X T (.type "list") cListD := by
  refine ⟨_, call_listD hc, fun {av r H m xs z vs Q} rm rv e k => ?_⟩
  unfold cListD at e
  split at e
  · split at e
    · rename_i x m ks ws hd
      split at e
      · rename_i hk
        cases e
        obtain ⟨v, rfl, h⟩ := rvs1 rv
        obtain ⟨d, vs, rfl, dk, _⟩ := dctOf_ok rm h hd
        obtain ⟨kvs, h1, h2, _⟩ := dk_flat dk hk
        subst h2
        exact ⟨d, kvs, rfl, h1, fun p hp => kf_new rm hp (rvs_keys kvs) k⟩
      · cases e
    · cases e
  · cases e
end M

namespace M
open PySem PySem.Spec PyProof.Rows L2
section
variable {prog : Program} {w : World} {A : Around} {E : Value → Shared → Prop} {s : Shared} {Q : Value → Shared → Prop} {a b : Value} {k : Bool}
theorem slot_type_ne : Slot "type" (cmpInfo .NotEq).2.1 "object.__ne__" :=
  .of (owner := "object") (n := "__ne__") (by rw [typeLookup_type, builtinLookup_eq_fast]; kernel_rfl) (by decide +kernel) (by decide +kernel) (by decide +kernel)
    (by first | exact .inl (by decide +kernel) | exact .inr (by decide +kernel)) (by rw [isSubtype_type]; kernel_rfl)
theorem objEqT (ha : s.TypeIs a "type") (hp : plainIs a b = true) (hk : (a == b) = k) (h : Q (if k then .bool true else .notImplemented) s) :
    wpAny (model prog w) A (call (.builtin "object.__eq__") [a, b]) Q E s := by
  cases k with
  | true => exact call_gives TypeEq.slot_type_eq ha F.entry_object_eq (F.args_object_eq_2 _ _) (TypeEq.object_eq_same hp hk) h
  | false => exact call_gives TypeEq.slot_type_eq ha F.entry_object_eq (F.args_object_eq_2 _ _) (TypeEq.object_eq_other hp hk) h
theorem beqV_comm (hk : (a == b) = k) : (b == a) = k := by
  cases k with
  | true => rw [beq_iff_eq] at hk ⊢; exact hk.symm
  | false =>
    rw [Bool.eq_false_iff] at hk ⊢
    intro e
    exact hk (by rw [beq_iff_eq] at e ⊢; exact e.symm)
theorem eqT (hu : A.units < cLine) (ha : s.TypeIs a "type") (hb : s.TypeIs b "type") (hp : plainIs a b = true) (hp' : plainIs b a = true) (hk : (a == b) = k) (h : Q (.bool k) s) :
    wpAny (model prog w) A (compareOp .Eq a b) Q E s := by
  show wpAny _ A (richCompare .Eq _ _) Q E s
  cases k with
  | true => exact wpAny_richCompare_same_or ha hb TypeEq.slot_type_eq (objEqT ha hp hk ⟨(by intro e; cases e), h⟩) (.inr hu)
  | false =>
    simp only [richCompare, cmpInfo_Eq, ha.oneThing_none]
    try with_reducible refine wpAny_holding ?_
    refine wpAny_bind (wpAny_cRoomFor_or (.inr hu) ?_)
    refine wpAny_bind (wpAny_typeOf ha (wpAny_bind (wpAny_typeOf hb ?_)))
    simp only [bne_self_eq_false, Bool.false_eq_true, if_false, pure_bind, Bool.not_false, if_true]
    refine wpAny_bind (m := tryCompare a _ b) (wpAny_tryCompare_declines ha TypeEq.slot_type_eq (objEqT ha hp hk ⟨rfl, ?_⟩))
    refine wpAny_bind (m := tryCompare b _ a) (wpAny_tryCompare_declines hb TypeEq.slot_type_eq_refl (objEqT hb hp' (beqV_comm hk) ⟨rfl, ?_⟩))
    refine wpAny_bind (wpAny_rule (wpAny_bind (wpAny_of_eq (by rw [isSame_plain hp, hk]) (wpAny_pure h))))
theorem objNeT (hu : A.units + 1 < cLine) (ha : s.TypeIs a "type") (hp : plainIs a b = true) (hk : (a == b) = k) (h : Q (if k then .bool false else .notImplemented) s) :
    wpAny (model prog w) A (call (.builtin "object.__ne__") [a, b]) Q E s := by
  refine wpAny_call_entry slot_type_ne ha F.cmpEntry_ne ?_ (F.cmpArgs_ne _ _)
  unfold Builtin.«object.__ne__»
  have hc : ∀ Q' : Option Value → Shared → Prop, Q' (some (if k then .bool true else .notImplemented)) s → wpAny (model prog w) A.in1 (callSpecialIfBound? a "__eq__" [b]) Q' E s :=
    fun Q' hq => wpAny_callSpecialIfBound?_slot ha TypeEq.slot_type_eq (objEqT ha hp hk hq)
  cases k with
  | true => repeat (first | with_reducible refine wpAny_cRoomFor (A := A.in1) hu ?_ | with_reducible refine hc _ ?_ | exact ⟨_, rfl, h⟩ | wp_step)
  | false => repeat (first | with_reducible refine wpAny_cRoomFor (A := A.in1) hu ?_ | with_reducible refine hc _ ?_ | exact ⟨_, rfl, h⟩ | wp_step)
theorem neT (hu : A.units + 1 < cLine) (ha : s.TypeIs a "type") (hb : s.TypeIs b "type") (hp : plainIs a b = true) (hp' : plainIs b a = true) (hk : (a == b) = k) (h : Q (.bool !k) s) :
    wpAny (model prog w) A (compareOp .NotEq a b) Q E s := by
  have hu0 : A.units < cLine := Nat.lt_of_succ_lt hu
  show wpAny _ A (richCompare .NotEq _ _) Q E s
  cases k with
  | true => exact wpAny_richCompare_same_or ha hb slot_type_ne (objNeT hu ha hp hk ⟨(by intro e; cases e), h⟩) (.inr hu0)
  | false =>
    simp only [richCompare, cmpInfo_NotEq, ha.oneThing_none]
    try with_reducible refine wpAny_holding ?_
    refine wpAny_bind (wpAny_cRoomFor_or (.inr hu0) ?_)
    refine wpAny_bind (wpAny_typeOf ha (wpAny_bind (wpAny_typeOf hb ?_)))
    simp only [bne_self_eq_false, Bool.false_eq_true, if_false, pure_bind, Bool.not_false, if_true]
    refine wpAny_bind (m := tryCompare a _ b) (wpAny_tryCompare_declines ha slot_type_ne (objNeT hu ha hp hk ⟨rfl, ?_⟩))
    refine wpAny_bind (m := tryCompare b _ a) (wpAny_tryCompare_declines hb slot_type_ne (objNeT hu hb hp' (beqV_comm hk) ⟨rfl, ?_⟩))
    refine wpAny_bind (wpAny_rule (wpAny_bind (wpAny_of_eq (by rw [isSame_plain hp, hk]) (wpAny_pure h))))
end
section
variable {X : Cx} {T : Tx} {W : WX} {a b c : Expr} {ma mb mc : ME} {pos : Pos}
variable {av av' : Av} {r r' r2 : List Addr} {H H' H2 : Hp} {m m' : Mem}
theorem tag_type (hK : X.K = T.K) (rm : RM T av r H m) {x : PV} {v : V} {t : Nat} (h : RV T av r H x v) (e : tagOf x m = some t) :
    (t < 7 ∧ ∀ (pins : List (Addr × Obj)) (σ : L2.St) (s : Shared) (u : Value), Inv X pins σ H s → RelV v u → s.TypeIs u (tagN t)) ∨
      ∃ (c : Nat) (a dx : Addr) (fs : List (Str × V)), t = 10 + c ∧ v = .ref a ∧ H a = some (.ins (T.cA c) dx fs) := by
  have lst_ok : ∀ {a : Addr} {vs : List V}, Rd H a (.lst vs) → ∀ (pins : List (Addr × Obj)) (σ : L2.St) (s : Shared) (u : Value), Inv X pins σ H s → RelV (.ref a) u → s.TypeIs u (tagN 5) := fun {a vs} ha pins σ s u I rx => by
    cases (show u = Value.ref a from rx)
    obtain ⟨its, rv, pl, hz⟩ := I.list (.inl ha)
    exact pl.isList.typeIs
  have dK_ok : ∀ {a : Addr} {kvs : List (Key × V)}, Rd H a (.dK kvs) → ∀ (pins : List (Addr × Obj)) (σ : L2.St) (s : Shared) (u : Value), Inv X pins σ H s → RelV (.ref a) u → s.TypeIs u (tagN 6) := fun {a kvs} ha pins σ s u I rx => by
    cases (show u = Value.ref a from rx)
    rcases ha with ha | ⟨o, ha⟩
    · obtain ⟨_, _, vs, _, o, es, ep, h1, h2, _⟩ := (show ObjOk X.prog X.w H s.heap a (.dK kvs) from I.hok a _ ha)
      exact ⟨o, h1, h2.1⟩
    · obtain ⟨_, _, xs, _, o, es, ep, h1, h2, _⟩ := (show ObjOk X.prog X.w H s.heap a (.frz _ (.dK kvs)) from I.hok a _ ha).2
      exact ⟨o, h1, h2.1⟩
  have dT_ok : ∀ {a : Addr} {kvs : List (List Key × V)}, Rd H a (.dT kvs) → ∀ (pins : List (Addr × Obj)) (σ : L2.St) (s : Shared) (u : Value), Inv X pins σ H s → RelV (.ref a) u → s.TypeIs u (tagN 6) := fun {a kvs} ha pins σ s u I rx => by
    cases (show u = Value.ref a from rx)
    rcases ha with ha | ⟨o, ha⟩
    · obtain ⟨_, _, xs, _, o, es, ep, h1, h2, _⟩ := (show ObjOk X.prog X.w H s.heap a (.dT kvs) from I.hok a _ ha)
      exact ⟨o, h1, h2.1⟩
    · obtain ⟨_, _, xs, _, o, es, ep, h1, h2, _⟩ := (show ObjOk X.prog X.w H s.heap a (.frz _ (.dT kvs)) from I.hok a _ ha).2
      exact ⟨o, h1, h2.1⟩
  cases x with
  | non => cases e; rw [h.non']; exact .inl ⟨by decide, fun _ _ _ u I rx => by cases (show u = Value.none from rx); rfl⟩
  | bl b => cases e; rw [h.bl']; exact .inl ⟨by decide, fun _ _ _ u I rx => by cases (show u = Value.bool b from rx); rfl⟩
  | int i => cases e; rw [h.int']; exact .inl ⟨by decide, fun _ _ _ u I rx => by obtain ⟨t, rfl⟩ := (show ∃ t, u = Value.int i t from rx); rfl⟩
  | str z => cases e; rw [h.str']; exact .inl ⟨by decide, fun _ _ _ u I rx => by obtain ⟨t, rfl⟩ := (show ∃ t, u = Value.str z t from rx); rfl⟩
  | tup xs =>
    cases e
    unfold RV at h
    obtain ⟨a, vs, rfl, h1, _⟩ := h
    refine .inl ⟨by decide, fun pins σ s u I rx => ?_⟩
    cases (show u = Value.ref a from rx)
    rcases h1 with ⟨_, ha⟩ | ⟨_, o, its, n, hk, hcl, _⟩ | ⟨_, _, ob, ha⟩
    · obtain ⟨its, rv, ⟨o, h1, h2, _⟩, hz⟩ := I.tuple (xs := vs) (.inl (.inl ha))
      exact ⟨o, h1, h2⟩
    · exact ⟨o, I.kIn a o (by rw [hK]; exact hk), hcl⟩
    · obtain ⟨its, rv, ⟨o, h1, h2, _⟩, hz⟩ := I.tuple (xs := vs) (.inl (.inr ⟨ob, ha⟩))
      exact ⟨o, h1, h2⟩
  | exn c ws => cases e
  | kst xs => cases e
  | lst xs =>
    cases e
    unfold RV at h
    obtain ⟨a, vs, rfl, _, ha, _⟩ := h
    exact .inl ⟨by decide, lst_ok ha⟩
  | dct ks ws =>
    cases e
    unfold RV at h
    obtain ⟨a, vs, rfl, _, ha, _⟩ := h
    rcases ha with ⟨kvs, ha, _⟩ | ⟨kvs, ha, _⟩
    · exact .inl ⟨by decide, dK_ok ha⟩
    · exact .inl ⟨by decide, dT_ok ha⟩
  | ins c ws =>
    cases e
    unfold RV at h
    obtain ⟨a, dx, fs, rfl, _, ha, _⟩ := h
    exact .inr ⟨c, a, dx, fs, rfl, rfl, ha⟩
  | dtt ks ws =>
    cases e
    unfold RV at h
    obtain ⟨a, kvs, rfl, _, ha, _⟩ := h
    exact .inl ⟨by decide, dT_ok ha⟩
  | glo k => cases e
  | lam l => cases e
  | opq => cases e
  | ftup xs => cases e
  | clo0 l => cases e
  | clo l xs => cases e
  | ref i =>
    unfold RV at h
    obtain ⟨a, h1, rfl⟩ := h
    rw [tagOf] at e
    split at e
    · cases e
      rename_i xs hx
      obtain ⟨vs, ha, _⟩ := rm.ob i _ a hx h1
      exact .inl ⟨by decide, lst_ok (.inl ha)⟩
    · cases e
      rename_i xs ys hx
      obtain ⟨vs, ha, _⟩ := rm.ob i _ a hx h1
      rcases ha with ⟨kvs, ha, _⟩ | ⟨kvs, ha, _⟩
      · exact .inl ⟨by decide, dK_ok (.inl ha)⟩
      · exact .inl ⟨by decide, dT_ok (.inl ha)⟩
    · cases e
      rename_i c ws hx
      obtain ⟨dx, fs, ha, _⟩ := rm.ob i _ a hx h1
      exact .inr ⟨c, a, dx, fs, rfl, rfl, ha⟩
    · cases e
    · cases e
    · cases e
theorem tag_nb : ∀ t, t < 7 → (Value.type (tagN t) == Value.type "builtin_function_or_method") = false := fun t ht => by
  rw [ty_beq]
  exact decide_eq_false ((by decide : ∀ t, t < 7 → tagN t ≠ "builtin_function_or_method") t ht)
theorem tag_meta : ∀ t, t < 7 → ∀ s' : Shared, s'.TypeIs (.type (tagN t)) "type"
  | 0, _ => TypeEq.meta_NoneType
  | 1, _ => TypeEq.meta_bool
  | 2, _ => TypeEq.meta_int
  | 3, _ => TypeEq.meta_str
  | 4, _ => TypeEq.meta_tuple
  | 5, _ => TypeEq.meta_list
  | 6, _ => TypeEq.meta_dict
  | n + 7, h => absurd h (by omega)
theorem tag_eq : ∀ t, t < 7 → ∀ g, g < 7 → decide (tagN t = tagN g) = (t == g) := by decide
noncomputable def rTyM (X : Cx) : List V → Hp → VK → Prop := fun xs H Q => ∃ x, xs = [x] ∧
  ((∃ t, t < 7 ∧ (∀ (pins : List (Addr × Obj)) (σ : L2.St) (s : Shared) (u : Value), Inv X pins σ H s → RelV x u → s.TypeIs u (tagN t)) ∧ Q (.ty (tagN t)) H) ∨
    ∃ a C dx fs, x = .ref a ∧ H a = some (.ins C dx fs) ∧ Q (.ref C) H)
theorem call_tyM : CallR X (.type "type") (rTyM X) := by
  intro pins s σ H xs us Q I r h
  obtain ⟨x, rfl, ⟨t, ht, hty, q⟩ | ⟨a, C, dx, fs, rfl, ha, q⟩⟩ := h
  · obtain ⟨u, rfl, rx⟩ := vals1 r
    exact call_type_of (hty _ _ _ _ I rx) (tag_nb t ht) ⟨.ty (tagN t), H, I, rfl, q⟩
  · exact cr_type pins s σ H _ us Q I r ⟨a, C, dx, fs, rfl, ha, q⟩
noncomputable def rTq (X : Cx) (g : Nat) (neg : Bool) : R2 := fun x y H Q => g < 7 ∧ y = .ty (tagN g) ∧
  ((∃ t, t < 7 ∧ x = .ty (tagN t) ∧ Q (.bl ((t == g) != neg)) H) ∨ ∃ C, x = .ref C ∧ PySem.W.typeIn X.K (.ref C) = some (.type "type") ∧ Q (.bl neg) H)
theorem ref_meta {C : Addr} {pins : List (Addr × Obj)} {σ : L2.St} {s : Shared} (I : Inv X pins σ H s) (h : PySem.W.typeIn X.K (.ref C) = some (.type "type")) : s.TypeIs (.ref C) "type" := by
  obtain ⟨o, ho, e⟩ := Option.map_eq_some_iff.mp h
  exact ⟨o, I.kIn _ _ ho, e⟩
theorem op_eqTq {g : Nat} (hu : X.A.units < cLine) : OpR X (compareOp .Eq) (rTq X g false) := by
  intro pins s σ H x y v u Q I rx ry h
  obtain ⟨hg, rfl, ⟨t, ht, rfl, q⟩ | ⟨C, rfl, hC, q⟩⟩ := h
  · cases (show v = Value.type _ from rx)
    cases (show u = Value.type _ from ry)
    exact eqT hu (tag_meta t ht s) (tag_meta g hg s) rfl rfl ((ty_beq _ _).trans (tag_eq t ht g hg)) ⟨.bl (t == g), H, I, rfl, by rw [Bool.bne_false] at q; exact q⟩
  · cases (show v = Value.ref C from rx)
    cases (show u = Value.type _ from ry)
    exact eqT hu (ref_meta I hC) (tag_meta g hg s) rfl rfl (k := false) (by rfl) ⟨.bl false, H, I, rfl, q⟩
theorem op_neTq {g : Nat} (hu : X.A.units + 1 < cLine) : OpR X (compareOp .NotEq) (rTq X g true) := by
  intro pins s σ H x y v u Q I rx ry h
  obtain ⟨hg, rfl, ⟨t, ht, rfl, q⟩ | ⟨C, rfl, hC, q⟩⟩ := h
  · cases (show v = Value.type _ from rx)
    cases (show u = Value.type _ from ry)
    exact neT hu (tag_meta t ht s) (tag_meta g hg s) rfl rfl ((ty_beq _ _).trans (tag_eq t ht g hg)) ⟨.bl (!(t == g)), H, I, rfl, by rw [Bool.bne_true] at q; exact q⟩
  · cases (show v = Value.ref C from rx)
    cases (show u = Value.type _ from ry)
    exact neT hu (ref_meta I hC) (tag_meta g hg s) rfl rfl (k := false) (by rfl) ⟨.bl true, H, I, rfl, q⟩
noncomputable def cTyq (own : List Nat) (g : Nat) (neg : Bool) : List PV → Mem → Option PV
  | [x], m => match tagOf x m with
    | some t => if t < 7 then some (.bl ((t == g) != neg)) else if own.contains t then some (.bl neg) else none
    | none => none
  | _, _ => none
noncomputable def TyOwn (T : Tx) (own : List Nat) : Prop := ∀ o, own.contains o = true → PySem.W.typeIn T.K (.ref (T.cA (o - 10))) = some (.type "type")
theorem tyq_rd (hK : X.K = T.K) {own : List Nat} (ho : TyOwn T own) {g : Nat} (hg : g < 7) {neg : Bool} {xs : List PV} {z : PV} {vs : List V} {Q : VK} (rm : RM T av r H m) (rv : RVs T av r H xs vs) (e : cTyq own g neg xs m = some z) (k : KE T av r H Q z m) :
    rTyM X vs H fun x H1 => rTq X g neg x (.ty (tagN g)) H1 Q := by
  unfold cTyq at e
  split at e
  · rename_i x
    split at e
    · rename_i t ht
      obtain ⟨v, rfl, h1⟩ := rvs1 rv
      refine ⟨v, rfl, ?_⟩
      rcases tag_type hK rm h1 ht with ⟨h7, hty⟩ | ⟨c, a, dx, fs, rfl, rfl, ha⟩
      · rw [if_pos h7] at e
        cases e
        exact .inl ⟨t, h7, hty, hg, rfl, .inl ⟨t, h7, rfl, k r H _ .refl rm rv_bl⟩⟩
      · rw [if_neg (by omega)] at e
        split at e
        · rename_i hc
          cases e
          have q := ho _ hc
          rw [Nat.add_sub_cancel_left, ← hK] at q
          exact .inr ⟨a, _, dx, fs, rfl, ha, hg, rfl, .inr ⟨_, rfl, q, k r H _ .refl rm rv_bl⟩⟩
        · cases e
    · cases e
  · cases e
section
variable {x y : Str} {p p2 p3 : Pos} {g : Nat} {own : List Nat}
theorem se_tyEq (hK : X.K = T.K) (hu : X.A.units + 1 < cLine) (ho : TyOwn T own) (hg : Gl X x) (hm : X.mg x = none) (hv : bootBuiltins x = some (.type "type")) (hg2 : Gl X y) (hm2 : X.mg y = none) (hv2 : bootBuiltins y = some (.type (tagN g))) (ha : SE X T W a ma) (h7 : g < 7 := by decide)
    (hn : x ≠ "__name__" := by decide) (hd : (x == ("__debug__" : Str)) = false := by decide) (hn2 : y ≠ "__name__" := by decide) (hd2 : (y == ("__debug__" : Str)) = false := by decide)
    (he : starEach [a] X.env = (false, eval a X.env) :: starEach [] X.env := by rfl) (hpl : (backTo p2 (starEach [] X.env)).any (·.1) = false := by rfl)
    (hb : behindInMarks .Eq (.Name y p3) = false := by exact nomark _) :
    SE X T W (.Compare (.Call (.Name x p) [a] [] p2) [.Eq] [.Name y p3] pos) (mCl (cTyq own g false) (mCons ma mNil)) :=
  ⟨PE.imp (pe_cmpR (op_eqTq (g := g) (Nat.lt_of_succ_lt hu)) (pe_callTy call_tyM hg hm hv (sa_cons ha sa_nil (hs := he)).pa hn hd he hpl) (pe_bltn (v := .ty (tagN g)) hg2 hm2 hv2 rfl hn2 hd2) hb) fun σ H Q ⟨av, r, e, m, re, rm, h⟩ =>
    ⟨av, r, e, m, re, rm, okR_imp (okR_bind h) fun xs m1 h r1 H1 vs g1 rm1 rvs => by
      obtain ⟨z, hz, k⟩ := okR_oP h
      exact tyq_rd hK ho h7 rm1 rvs hz (k.grow g1)⟩⟩
theorem st_tyEq (hK : X.K = T.K) (hu : X.A.units + 1 < cLine) (ho : TyOwn T own) (hg : Gl X x) (hm : X.mg x = none) (hv : bootBuiltins x = some (.type "type")) (hg2 : Gl X y) (hm2 : X.mg y = none) (hv2 : bootBuiltins y = some (.type (tagN g))) (ha : SE X T W a ma) (h7 : g < 7 := by decide)
    (hn : x ≠ "__name__" := by decide) (hd : (x == ("__debug__" : Str)) = false := by decide) (hn2 : y ≠ "__name__" := by decide) (hd2 : (y == ("__debug__" : Str)) = false := by decide)
    (he : starEach [a] X.env = (false, eval a X.env) :: starEach [] X.env := by rfl) (hpl : (backTo p2 (starEach [] X.env)).any (·.1) = false := by rfl)
    (hb : behindInMarks .Eq (.Name y p3) = false := by exact nomark _) :
    ST X T W (.Compare (.Call (.Name x p) [a] [] p2) [.Eq] [.Name y p3] pos) (mTb (mCl (cTyq own g false) (mCons ma mNil))) :=
  ⟨PT.imp (pt_cmpR (op_eqTq (g := g) (Nat.lt_of_succ_lt hu)) (pe_callTy call_tyM hg hm hv (sa_cons ha sa_nil (hs := he)).pa hn hd he hpl) (pe_bltn (v := .ty (tagN g)) hg2 hm2 hv2 rfl hn2 hd2) hb) fun σ H Q ⟨av, r, e, m, re, rm, h⟩ =>
    ⟨av, r, e, m, re, rm, okR_imp (okR_bind (okR_bind h)) fun xs m1 h r1 H1 vs g1 rm1 rvs => by
      obtain ⟨z, hz, k⟩ := okR_oP h
      refine tyq_rd (Q := fun x H' => ∃ k, x = V.bl k ∧ Q k H') hK ho h7 rm1 rvs hz fun r3 H3 w3 g3 rm3 rw3 => ?_
      obtain ⟨b, rfl, k⟩ := okR_tb k
      exact ⟨b, rw3.bl', k r3 H3 (g1.trans g3) rm3⟩⟩⟩
theorem st_tyNe (hK : X.K = T.K) (hu : X.A.units + 1 < cLine) (ho : TyOwn T own) (hg : Gl X x) (hm : X.mg x = none) (hv : bootBuiltins x = some (.type "type")) (hg2 : Gl X y) (hm2 : X.mg y = none) (hv2 : bootBuiltins y = some (.type (tagN g))) (ha : SE X T W a ma) (h7 : g < 7 := by decide)
    (hn : x ≠ "__name__" := by decide) (hd : (x == ("__debug__" : Str)) = false := by decide) (hn2 : y ≠ "__name__" := by decide) (hd2 : (y == ("__debug__" : Str)) = false := by decide)
    (he : starEach [a] X.env = (false, eval a X.env) :: starEach [] X.env := by rfl) (hpl : (backTo p2 (starEach [] X.env)).any (·.1) = false := by rfl)
    (hb : behindInMarks .NotEq (.Name y p3) = false := by exact nomark _) :
    ST X T W (.Compare (.Call (.Name x p) [a] [] p2) [.NotEq] [.Name y p3] pos) (mTb (mCl (cTyq own g true) (mCons ma mNil))) :=
  ⟨PT.imp (pt_cmpR (op_neTq (g := g) hu) (pe_callTy call_tyM hg hm hv (sa_cons ha sa_nil (hs := he)).pa hn hd he hpl) (pe_bltn (v := .ty (tagN g)) hg2 hm2 hv2 rfl hn2 hd2) hb) fun σ H Q ⟨av, r, e, m, re, rm, h⟩ =>
    ⟨av, r, e, m, re, rm, okR_imp (okR_bind (okR_bind h)) fun xs m1 h r1 H1 vs g1 rm1 rvs => by
      obtain ⟨z, hz, k⟩ := okR_oP h
      refine tyq_rd (Q := fun x H' => ∃ k, x = V.bl k ∧ Q k H') hK ho h7 rm1 rvs hz fun r3 H3 w3 g3 rm3 rw3 => ?_
      obtain ⟨b, rfl, k⟩ := okR_tb k
      exact ⟨b, rw3.bl', k r3 H3 (g1.trans g3) rm3⟩⟩⟩
end
end
end M
namespace M
open PySem PySem.Spec PyProof.Rows L2
theorem tyOwn_of {T : Tx} {own : List Nat} (h : own.all (fun o => PySem.W.typeIn T.K (.ref (T.cA (o - 10))) == some (.type "type")) = true) : TyOwn T own := fun o ho =>
  beq_iff_eq.mp (List.all_eq_true.mp h o (List.contains_iff_mem.mp ho))
end M

namespace M
open PySem PySem.Spec PyProof.Rows L2
section
variable {X : Cx} {a b c d : Expr} {ta tb tc td : TE} {pos : Pos} {r1 r2 r3 : R2} {o1 o2 o3 : CmpOp}
noncomputable def tChain3 (r1 r2 r3 : R2) (ta tb tc td : TE) : TE := fun σ H Q => ta σ H fun x H1 => tb σ H1 fun y H2 => r1 x y H2 fun z H3 => ∃ k, z = .bl k ∧
  (if k = true then tc σ H3 fun w H4 => r2 y w H4 fun z' H5 => ∃ k', z' = .bl k' ∧ (if k' = true then td σ H5 fun u H6 => r3 w u H6 Q else Q (.bl false) H5) else Q (.bl false) H3)
theorem pt_chain3 (h1 : OpR X (compareOp o1) r1) (h2 : OpR X (compareOp o2) r2) (h3 : OpR X (compareOp o3) r3) (ha : PE X a ta) (hb : PE X b tb) (hc : PE X c tc) (hd : PE X d td)
    (hm : lastMarks [o1, o2, o3] [b, c, d] = false := by with_unfolding_all rfl) : PT X (.Compare a [o1, o2, o3] [b, c, d] pos) (tTest (tChain3 r1 r2 r3 ta tb tc td)) := by
  refine ⟨fun pins s σ H Q I h => ?_⟩
  refine isTrue_chain (thn (ha.run pins s σ H _ I h) fun v s1 ⟨x, H1, I1, rx, q1⟩ => test_link (thn (hb.run pins s1 σ H1 _ I1 q1) fun u s2 ⟨y, H2, I2, ry, q2⟩ =>
    thn (h1 pins s2 σ H2 x y v u _ I2 rx ry q2) fun d s3 ⟨z, H3, I3, rz, k, e, q3⟩ => ?_)) hm
  subst e
  cases rz
  refine wpAny_truthy_bool ?_
  cases k with
  | false =>
    obtain ⟨k', e', q'⟩ := q3
    cases e'
    exact ite_ff ⟨H3, I3, q'⟩
  | true =>
    refine ite_tt (test_link (thn (hc.run pins s3 σ H3 _ I3 q3) fun w' s4 ⟨z', H4, I4, rw, q4⟩ => thn (h2 pins s4 σ H4 y z' u w' _ I4 ry rw q4) fun d2 s5 ⟨z2, H5, I5, rz2, k2, e2, q5⟩ => ?_))
    subst e2
    cases rz2
    refine wpAny_truthy_bool ?_
    cases k2 with
    | false =>
      obtain ⟨k', e', q'⟩ := q5
      cases e'
      exact ite_ff ⟨H5, I5, q'⟩
    | true =>
      refine ite_tt (test_last (thn (hd.run pins s5 σ H5 _ I5 q5) fun w2 s6 ⟨z3, H6, I6, r6, q6⟩ => thn (h3 pins s6 σ H6 z' z3 w' w2 _ I6 rw r6 q6) fun d7 s7 ⟨z7, H7, I7, r7, k7, e7, q7⟩ => ?_))
      subst e7
      cases r7
      exact wpAny_truthy_bool ⟨H7, I7, q7⟩
end
section
variable {X : Cx} {T : Tx} {W : WX} {a b c d : Expr} {ma mb mc md : ME} {pos : Pos}
variable {av av' : Av} {r r' r2 : List Addr} {H H' H2 : Hp} {m m' : Mem}
noncomputable def mChain3 (f g h : PV → PV → Mem → Option PV) (ma mb mc md : ME) : ME := fun e m => (ma e m).bind fun x m1 => (mb e m1).bind fun y m2 => (oP (f x y m2) m2).bind fun z m3 => match z with
  | .bl true => (mc e m3).bind fun w m4 => (oP (g y w m4) m4).bind fun z' m5 => match z' with
    | .bl true => (md e m5).bind fun u m6 => oP (h w u m6) m6
    | .bl false => .ok (.bl false) m5
    | _ => .bad
  | .bl false => .ok (.bl false) m3
  | _ => .bad
theorem chain3_imp {f g h : PV → PV → Mem → Option PV} {rd rd' rd2 : R2}
    (k1 : ∀ {av : Av} {r : List Addr} {H : Hp} {m : Mem} {x y z : PV} {v w : V} {Q : VK}, RM T av r H m → RV T av r H x v → RV T av r H y w → f x y m = some z → KE T av r H Q z m → rd v w H Q)
    (k2 : ∀ {av : Av} {r : List Addr} {H : Hp} {m : Mem} {x y z : PV} {v w : V} {Q : VK}, RM T av r H m → RV T av r H x v → RV T av r H y w → g x y m = some z → KE T av r H Q z m → rd' v w H Q)
    (k3 : ∀ {av : Av} {r : List Addr} {H : Hp} {m : Mem} {x y z : PV} {v w : V} {Q : VK}, RM T av r H m → RV T av r H x v → RV T av r H y w → h x y m = some z → KE T av r H Q z m → rd2 v w H Q)
    {σ : L2.St} {H : Hp} {Q : VK} (hh : tE T W (mChain3 f g h ma mb mc md) σ H Q) : tChain3 rd rd' rd2 (tE T W ma) (tE T W mb) (tE T W mc) (tE T W md) σ H Q := by
  obtain ⟨av, r, e, m, re, rm, hh⟩ := hh
  refine ⟨av, r, e, m, re, rm, okR_imp (okR_bind hh) fun x m1 hh r1 H1 v g1 rm1 rv => ⟨av, r1, e, m1, re.grow g1, rm1, okR_grow g1 (fun y m2 hh r2 H2 w g2 rm2 rw => ?_) (okR_bind hh)⟩⟩
  obtain ⟨z, hz, k⟩ := okR_oP (okR_bind hh)
  refine k1 rm2 (rv.grow g2) rw hz fun r3 H3 w3 g3 rm3 rw3 => ?_
  have g13 := (g1.trans g2).trans g3
  split at k
  · refine ⟨true, rw3.bl', iteT ⟨av, r3, e, m2, re.grow g13, rm3, okR_grow g13 (fun y' m4 hh r4 H4 w4 g4 rm4 rw4 => ?_) (okR_bind k)⟩⟩
    obtain ⟨z, hz, k⟩ := okR_oP (okR_bind hh)
    refine k2 rm4 (rw.grow (g3.trans g4)) rw4 hz fun r5 H5 w5 g5 rm5 rw5 => ?_
    have g15 := (g13.trans g4).trans g5
    split at k
    · refine ⟨true, rw5.bl', iteT ⟨av, r5, e, m4, re.grow g15, rm5, okR_grow g15 (fun y6 m6 hh r6 H6 w6 g6 rm6 rw6 => ?_) (okR_bind k)⟩⟩
      obtain ⟨z, hz, k⟩ := okR_oP hh
      exact k3 rm6 (rw4.grow (g5.trans g6)) rw6 hz (k.grow (g15.trans g6))
    · exact ⟨false, rw5.bl', iteF (k r5 H5 _ g15 rm5 rv_bl)⟩
    · exact k.elim
  · exact ⟨false, rw3.bl', iteF (k r3 H3 _ g13 rm3 rv_bl)⟩
  · exact k.elim
theorem st_chain3 {o1 o2 o3 : CmpOp} {f g h : PV → PV → Mem → Option PV} (h1 : OpM X T (compareOp o1) f) (h2 : OpM X T (compareOp o2) g) (h3 : OpM X T (compareOp o3) h) (ha : SE X T W a ma) (hb : SE X T W b mb) (hc : SE X T W c mc) (hd : SE X T W d md)
    (hm : lastMarks [o1, o2, o3] [b, c, d] = false := by with_unfolding_all rfl) : ST X T W (.Compare a [o1, o2, o3] [b, c, d] pos) (mTb (mChain3 f g h ma mb mc md)) := by
  obtain ⟨rd1, q1, k1⟩ := h1
  obtain ⟨rd2, q2, k2⟩ := h2
  obtain ⟨rd3, q3, k3⟩ := h3
  refine ⟨PT.imp (pt_chain3 q1 q2 q3 ha.pe hb.pe hc.pe hd.pe hm) fun σ H Q ⟨av, r, e, m, re, rm, h⟩ => chain3_imp k1 k2 k3 ⟨av, r, e, m, re, rm, okR_imp (okR_bind h) fun x m1 h r1 H1 v g1 rm1 rv => ?_⟩⟩
  obtain ⟨b, rfl, k⟩ := okR_tb h
  exact ⟨b, rv.bl', k r1 H1 g1 rm1⟩
noncomputable def tGetKd (K : PySem.W.Frag) (d : Addr) (to ty : TE) : TE := fun σ H Q => to σ H fun x H1 => x = .ref d ∧ ty σ H1 fun y H2 => ∃ (z : Str) (q : Option Value) (v0 : V), y = .str z ∧ PySem.W.nsIn K d z = some q ∧ RelV v0 (q.getD .none) ∧ Q v0 H2
theorem pe_getKd {o e : Expr} {apos cpos : Pos} {to ty : TE} {d : Addr} {es : Array DictEntry} {n : Nat} (D : KDict X.K X.w d es n) (ho : PE X o to) (he : PE X e ty) (m : M1 X o "get" apos e cpos) : PE X (.Call (.Attribute o "get" apos) [e] [] cpos) (tGetKd X.K d to ty) := by
  refine ⟨fun pins s σ H Q I h => ?_⟩
  refine wpAny_Call_method m.base m.few m.line PySem.F.plainAttrs_dict PySem.F.slot_dict_get PySem.F.type_dict_get (thn (ho.run pins s σ H _ I h) fun u s1 ⟨x, H1, I1, rx, ex, q1⟩ => ?_)
  subst ex
  obtain rfl : u = Value.ref d := rx
  refine ⟨kd_type D I1, fun b q => ?_, ?_⟩
  · cases q
    exact ⟨_, I1.kIn _ _ D.at_, rfl⟩
  rw [m.trees]
  refine Calls.callWith_builtin rfl (Calls.evalArgs_plain (Calls.spliced_cons (thn (he.run pins s1 σ H1 _ I1 q1) fun iv s2 ⟨y, H2, I2, ry, z, q, v0, ey, hn, rv, q2⟩ => Calls.spliced_nil ?_)))
  subst ey
  obtain ⟨t, rfl⟩ := ry
  refine call_meetsIn PySem.F.slot_dict_get (kd_type D I2) PySem.F.entry_dict_get (PySem.F.args_dict_get_2 _ _) (meets_dict_get (strKind X.prog X.w) d (PySem.strKind_is X.prog X.w z t) D.low)
    ⟨_, PySem.W.mapOf_K (prog := X.prog) I2.kIn D.at_ D.lit, ?_⟩
  rw [PySem.W.find_K D.at_ hn]
  exact ⟨v0, H2, I2.tok _, rv, q2⟩
noncomputable def mGetK (k : Nat) (kvs : List (Str × Int)) (mo ma : ME) : ME := fun e m => (mo e m).bind fun x m1 => match x with
  | .glo j => if j == k then (ma e m1).bind fun y m2 => match y with
    | .str z => .ok (match kvs.lookup z with
      | some i => .int i
      | none => .non) m2
    | _ => .bad else .bad
  | _ => .bad
theorem se_getK {k : Nat} {o : Expr} {mo : ME} {apos cpos : Pos} {d : Addr} {kvs : List (Str × Int)} (hg : T.g k = .ref d) (D : KTab X.K X.w d kvs) (ho : SE X T W o mo) (ha : SE X T W a ma) (m : M1 X o "get" apos a cpos) :
    SE X T W (.Call (.Attribute o "get" apos) [a] [] cpos) (mGetK k kvs mo ma) := by
  obtain ⟨es, n, KD⟩ := D.dct
  refine ⟨PE.imp (pe_getKd KD ho.pe ha.pe m) fun σ H Q ⟨av, r, e, m, re, rm, h0⟩ => ⟨av, r, e, m, re, rm, okR_imp (okR_bind h0) fun x m1 h r1 H1 v g1 rm1 rv => ?_⟩⟩
  clear h0
  split at h
  · rename_i j
    split at h
    · rename_i hj
      have hy := eq_of_beq hj
      subst hy
      unfold RV at rv
      refine ⟨by rw [rv, hg], av, r1, e, m1, re.grow g1, rm1, okR_grow g1 (fun y m2 h r2 H2 w g2 rm2 rw => ?_) (okR_bind h)⟩
      split at h
      · rename_i z
        have row := D.row z
        cases hl : kvs.lookup z with
        | none =>
          rw [hl] at row h
          exact ⟨z, none, .non, rw.str', row, rfl, h r2 H2 _ (g1.trans g2) rm2 (by unfold RV; rfl)⟩
        | some i =>
          rw [hl] at row h
          obtain ⟨u, e1, ru⟩ := row
          exact ⟨z, some u, .int i, rw.str', e1, ru, h r2 H2 _ (g1.trans g2) rm2 rv_int⟩
      · exact h.elim
    · exact h.elim
  · exact h.elim
end
end M

namespace M
open PySem PySem.Spec PyProof.Rows L2
variable {X : Cx} {T : Tx} {W : WX} {a b c : Expr} {ma mb mc : ME} {mt mu : MT} {ms mv : MS} {pos : Pos} {st : Stmt} {rest sts : List Stmt}
variable {av av' : Av} {r r' r2 : List Addr} {H H' H2 : Hp} {m m' : Mem}
section
variable {C f : Addr} {fd : FuncData} {ps : List Str} {k : Nat} {sp : Sp}
theorem rc_eqI {A : Around} {E : Value → Shared → Prop} {pins : List (Addr × Obj)} {σ : L2.St} {s : Shared} {p q dx dy : Addr} {fs gs : List (Str × V)} {Q : Bool → Hp → Prop}
    (hf : Meth X.K C "__eq__" f) (F : FnOk X.prog X.w X.K X.mg X.base (L2.CX X.prog X.w) k f fd ps sp) (hr : Room k A) (hfr : A.frames = X.A.frames) (hb : Binds X.K fd ps [])
    (I : Inv X pins σ H s) (h1 : H p = some (.ins C dx fs)) (h2 : H q = some (.ins C dy gs))
    (h : sp [.ref p, .ref q] H (fun v H' => ∃ t : Bool, v = .bl t ∧ Q t H') (fun _ _ _ => False)) :
    wpAny (model X.prog X.w) A (richCompare .Eq (.ref p) (.ref q)) (fun u s' => ∃ t H', u = .bool t ∧ Inv X pins σ H' s' ∧ Q t H') E s := by
  obtain ⟨mA, J, _⟩ := ins_get I.hok h1
  obtain ⟨mB, J', _⟩ := ins_get I.hok h2
  obtain ⟨od, J, _⟩ := J.look
  obtain ⟨od', J', _⟩ := J'.look
  obtain ⟨m, hF⟩ := I.fr
  refine PySem.W.cmp_K (op := .Eq) (tb := .ref C) hr.units0 hF I.ok.mod.kin J J'.type (by simp [PySem.W.notFirst]) hf.at_ hf.fn ?_
  have e0 : Env0 X.prog X.w X.K X.mg X.base A X.stack s H := by
    have e := I.env0
    exact ⟨by rw [hfr]; exact e.frames, e.mod, e.bs, e.bsz, e.funs, e.frf, e.hok, e.bare⟩
  have hl := F.len _ _ _ _ h
  have r2 : Vals [V.ref p, V.ref q] [Value.ref p, Value.ref q] := .cons rfl (.cons rfl .nil)
  refine wpAny_call (codeAny_mono (F.run A X.stack s H ⟨[.ref p, .ref q], []⟩ [.ref p, .ref q] [.ref p, .ref q] _ _ hr e0 (by
    have := hb s [.ref p, .ref q] I.kIn (by simpa using hl)
    simpa using this) r2 h) fun r s' hq => ?_)
  cases r with
  | error e => obtain ⟨_, _, _, _, _, _, _, _, _, _, _, _, z⟩ := hq; exact z.elim
  | ok fl =>
    cases fl with
    | ret w =>
      obtain ⟨z, H', I', rz, t, ez, ex⟩ := I.after hq
      subst ez
      cases rz
      exact ⟨t, H', rfl, I', ex⟩
    | next => exact False.elim hq
    | brk => exact False.elim hq
    | cont => exact False.elim hq
theorem op_eqI (hf : Meth X.K C "__eq__" f) (F : FnOk X.prog X.w X.K X.mg X.base (L2.CX X.prog X.w) k f fd ps sp) (hr : Room k X.A) (hb : Binds X.K fd ps []) :
    OpR X (compareOp .Eq) (fun x y H Q => ∃ p q dx dy fs gs, x = .ref p ∧ y = .ref q ∧ H p = some (.ins C dx fs) ∧ H q = some (.ins C dy gs) ∧ sp [.ref p, .ref q] H (fun v H' => ∃ t : Bool, v = .bl t ∧ Q (.bl t) H') (fun _ _ _ => False)) := by
  intro pins s σ H x y v u Q I rx ry h
  obtain ⟨p, q, dx, dy, fs, gs, rfl, rfl, h1, h2, h⟩ := h
  cases rx
  cases ry
  show wpAny (model X.prog X.w) X.A (richCompare .Eq _ _) (EP X pins σ Q) X.xe s
  refine wpAny_mono (rc_eqI (Q := fun t H' => Q (.bl t) H') hf F hr rfl hb I h1 h2 h) (fun z s' hz => ?_) fun _ _ x => x
  obtain ⟨t, H', rfl, I', q⟩ := hz
  exact ⟨.bl t, H', I', rfl, q⟩
end
section
variable {f : Addr} {fd : FuncData} {ps : List Str} {k cl : Nat} {mf : MF}
noncomputable def fEqI (cl : Nat) (mf : MF) : PV → PV → Mem → Option PV := fun x y m => if isIns cl x m && isIns cl y m then match runP 2 mf [x, y] m with
    | .ok (.bl t) _ => some (.bl t)
    | _ => none
  else none
theorem om_eqI (hn : ("__eq__" : Str) ∉ T.cN cl) (hf : Meth X.K (T.cA cl) "__eq__" f) (F : FnOk X.prog X.w X.K X.mg X.base (L2.CX X.prog X.w) k f fd ps (spM T 2 mf)) (hr : Room (k + 1) X.A) (hb : Binds X.K fd ps []) : OpM X T (compareOp .Eq) (fEqI cl mf) := by
  refine ⟨_, op_eqI hf F (hr.mono (Nat.le_succ k)) hb, fun {av r H m x y z v w Q} rm rv rw e q => ?_⟩
  unfold fEqI at e
  split at e
  · rename_i hi
    rw [Bool.and_eq_true] at hi
    split at e
    · rename_i t m' hrun
      cases e
      obtain ⟨p, dx, fs, rfl, hA, _⟩ := isIns_ok hn rm rv hi.1
      obtain ⟨p2, dx2, fs2, rfl, hA2, _⟩ := isIns_ok hn rm rw hi.2
      refine ⟨p, p2, dx, dx2, fs, fs2, rfl, rfl, hA, hA2, sp_callP rm (show RVs T av r H [x, y] [V.ref p, V.ref p2] from by unfold RVs; exact ⟨_, _, rfl, rv, by unfold RVs; exact ⟨_, [], rfl, rw, by unfold RVs; rfl⟩⟩) ?_⟩
      rw [hrun]
      have em := runP_same hrun
      subst em
      exact fun r1 H1 w g rm1 rv1 => ⟨t, rv1.bl', q r1 H1 _ g rm1 (by unfold RV; rfl)⟩
    · cases e
  · cases e
end
end M

namespace M
open PySem PySem.Spec PyProof.Rows L2
variable {X : Cx} {T : Tx} {W : WX} {a b c : Expr} {ma mb mc : ME} {mt mu : MT} {ms mv : MS} {pos : Pos}
variable {av av' : Av} {r r' r2 : List Addr} {H H' H2 : Hp} {m m' : Mem}
theorem noEq {A : Around} {s : Shared} {x : Value} : ∀ y : Value, y ∈ (#[] : Array Value) → SeqAt.EqAt A s y x false := fun y h => by simp at h
theorem any0 : ((#[] : Array Value).any fun _ => false) = false := by simp
theorem op_inE : OpR X (compareOp .In) (fun x y H Q => ∃ a, y = .ref a ∧ (SqL X.K H a [] ∨ SqT X.K H a []) ∧ Q (.bl false) H) := by
  intro pins s σ H x y v u Q I rx ry h
  obtain ⟨a, rfl, h, q⟩ := h
  cases ry
  rcases h with h | h
  · obtain ⟨its, rv, pl, _⟩ := I.list h
    cases rv
    refine SeqAt.in_listAt (fun _ => false) pl.isList noEq ?_
    rw [any0]
    exact ⟨.bl false, H, I, rfl, q⟩
  · obtain ⟨its, rv, ⟨o, h1, h2, n, h3⟩, _⟩ := I.tuple h
    cases rv
    refine SeqAt.in_tupleAt (fun _ => false) ⟨o, h1, h2, n, h3⟩ noEq ?_
    rw [any0]
    exact ⟨.bl false, H, I, rfl, q⟩
theorem op_notInE : OpR X (compareOp .NotIn) (fun x y H Q => ∃ a, y = .ref a ∧ (SqL X.K H a [] ∨ SqT X.K H a []) ∧ Q (.bl true) H) := by
  intro pins s σ H x y v u Q I rx ry h
  obtain ⟨a, rfl, h, q⟩ := h
  cases ry
  rcases h with h | h
  · obtain ⟨its, rv, pl, _⟩ := I.list h
    cases rv
    refine SeqAt.notIn_listAt (fun _ => false) pl.isList noEq ?_
    rw [any0]
    exact ⟨.bl true, H, I, rfl, q⟩
  · obtain ⟨its, rv, ⟨o, h1, h2, n, h3⟩, _⟩ := I.tuple h
    cases rv
    refine SeqAt.notIn_tupleAt (fun _ => false) ⟨o, h1, h2, n, h3⟩ noEq ?_
    rw [any0]
    exact ⟨.bl true, H, I, rfl, q⟩
noncomputable def isE (x : PV) (m : Mem) : Bool := match x with
  | .tup [] => true
  | x => match lstOf x m with
    | some [] => true
    | _ => false
theorem isE_ok (hK : X.K = T.K) {x : PV} {v : V} (rm : RM T av r H m) (rv : RV T av r H x v) (h : isE x m = true) : ∃ a, v = .ref a ∧ (SqL X.K H a [] ∨ SqT X.K H a []) := by
  unfold isE at h
  split at h
  · unfold RV at rv
    obtain ⟨a, vs, rfl, h1, h2⟩ := rv
    unfold RVs at h2
    subst h2
    rcases h1 with ⟨_, d⟩ | ⟨_, o, its, n, k1, k2, k3, k4, k5⟩ | ⟨_, _, ob, d⟩
    · exact ⟨a, rfl, .inr (.inl (.inl d))⟩
    · exact ⟨a, rfl, .inr (.inr ⟨o, its, n, by rw [hK]; exact k1, k2, k3, k4, k5⟩)⟩
    · exact ⟨a, rfl, .inr (.inl (.inr ⟨ob, d⟩))⟩
  · split at h
    · rename_i hl
      obtain ⟨a, vs, rfl, hr, hv⟩ := lstOf_ok rm rv hl
      unfold RVs at hv
      subst hv
      exact ⟨a, rfl, .inl (.inl hr)⟩
    · cases h
noncomputable def fInE (neg : Bool) : PV → PV → Mem → Option PV := fun _ y m => if isE y m then some (.bl neg) else none
theorem om_inE (hK : X.K = T.K) : OpM X T (compareOp .In) (fInE false) := by
  refine ⟨_, op_inE, fun {av r H m x y z v w Q} rm rv rw e k => ?_⟩
  unfold fInE at e
  split at e
  · rename_i hi
    cases e
    obtain ⟨a, rfl, h⟩ := isE_ok hK rm rw hi
    exact ⟨a, rfl, h, k r H _ .refl rm rv_bl⟩
  · cases e
theorem om_notInE (hK : X.K = T.K) : OpM X T (compareOp .NotIn) (fInE true) := by
  refine ⟨_, op_notInE, fun {av r H m x y z v w Q} rm rv rw e k => ?_⟩
  unfold fInE at e
  split at e
  · rename_i hi
    cases e
    obtain ⟨a, rfl, h⟩ := isE_ok hK rm rw hi
    exact ⟨a, rfl, h, k r H _ .refl rm rv_bl⟩
  · cases e
end M
namespace M
open PySem PySem.Spec PyProof.Rows L2
variable {X : Cx} {T : Tx} {W : WX} {a b c : Expr} {ma mb mc : ME} {pos : Pos}
variable {av av' : Av} {r r' r2 : List Addr} {H H' H2 : Hp} {m m' : Mem}
end M
namespace M
open PySem PySem.Spec PyProof.Rows L2
variable {X : Cx} {T : Tx} {W : WX} {a b c : Expr} {ma mb mc : ME} {pos : Pos}
variable {av av' : Av} {r r' r2 : List Addr} {H H' H2 : Hp} {m m' : Mem}
end M

namespace GQ
open PySem PySem.SeqAt
open AutoSeq1 (wpAny_loadPart')
open MeetsSeq MeetsSeq2 MeetsSeq3 SeqRoads2
section
variable {prog : Program} {w : World} {A : Around} {R : Result → Shared → Prop}
theorem tuple_containsG (l : Addr) (items : Array Value) (n : Nat) (dd : Option Addr) (sl : Array (Option Value)) (x : Value) (I : Nat → Shared → Prop)
    (turn : ∀ i (h1 : i < items.size) s, I i s → wpAny (model prog w) A.in1 (eqBool items[i] x) (fun r s' => (r = true → R (.ok (.ret (.bool true))) s') ∧ (r = false → I (i + 1) s')) (fun e s' => R (.error e) s') s)
    (fin : ∀ s, I items.size s → R (.ok (.ret (.bool false))) s) {s : Shared} (hl : s.heap.get? l = some { cls := .type "tuple", dict := dd, data := .seq items n, slots := sl }) (h : I 0 s) :
    wpAny (model prog w) A.in1 (Builtin.«tuple.__contains__» ⟨[.ref l, x], []⟩) (FinOf prog w A R) (fun e s' => R (.error e) s') s := by
  have h0 := h
  obtain ⟨hp, g, d, tk, os⟩ := s
  wp_walk using wpAny_loadPart' hl, wpAny_forIn_array _ (fun rest b s' => b.1 = none ∧ ∃ i, rest = items.toList.drop i ∧ i ≤ items.size ∧ I i s') _
  case turn =>
    rintro y rest b s' ⟨hb', i, hz, hi, hI⟩
    have h1 : i < items.size := by
      rcases Nat.lt_or_ge i items.size with h' | h'
      · exact h'
      · rw [List.drop_of_length_le (by simpa using h')] at hz; cases hz
    rw [List.drop_eq_getElem_cons (by simpa using h1)] at hz
    injection hz with hy hrest
    have hy' : y = items[i] := by simpa using hy
    subst hy'
    refine wpAny_bind (wpAny_mono (turn i h1 s' hI) (fun r s2 q2 => ?_) fun _ _ x => x)
    obtain ⟨q1, q2⟩ := q2
    cases r with
    | true =>
      have q1 := q1 rfl
      wp_walk
      exact q1
    | false =>
      have q2 := q2 rfl
      wp_walk
      exact ⟨rfl, i + 1, hrest, h1, q2⟩
  case fin =>
    rintro ⟨b1, b2⟩ s' ⟨hb', i, hz, hi, hI⟩
    simp only at hb'
    subst hb'
    have hge : items.size ≤ i := by
      rcases Nat.lt_or_ge i items.size with h' | h'
      · rw [List.drop_eq_getElem_cons (by simpa using h')] at hz; cases hz
      · exact h'
    have hi' : i = items.size := by omega
    have hR := fin s' (hi' ▸ hI)
    wp_walk
    exact hR
  case h =>
    exact ⟨rfl, 0, by simp, Nat.zero_le _, h0⟩
end
end GQ
namespace M
open PySem PySem.Spec PyProof.Rows L2
section
variable {X : Cx} {pins : List (Addr × Obj)} {σ : L2.St} {H : Hp} {s : Shared}
theorem Inv.no_both (I : Inv X pins σ H s) {a : Addr} {xs ys : List V} (h : SqL X.K H a xs) (h' : SqT X.K H a ys) : False := by
  obtain ⟨its, r, ⟨o, n, e, c, _⟩, _⟩ := I.list h
  obtain ⟨its', r', ⟨o', e', c', _⟩, _⟩ := I.tuple h'
  rw [e] at e'
  cases e'
  rw [c] at c'
  injection c' with z
  exact absurd z (by decide)
mutual
theorem Dp_inj (I : Inv X pins σ H s) : ∀ (d e : PyData) {v : V}, Dp X.K H v d → Dp X.K H v e → d = e
  | .none, e, _, h, h' => by cases h; cases h'; rfl
  | .bool b, e, _, h, h' => by cases h; cases h'; rfl
  | .int i, e, _, h, h' => by cases h; cases h'; rfl
  | .str z, e, _, h, h' => by cases h; cases h'; rfl
  | .list ds, e, _, h, h' => by
    cases h with
    | lst h1 h2 =>
      cases h' with
      | lst k1 k2 =>
        have := I.list_inj h1 k1
        subst this
        rw [DpAll_inj I ds _ h2 k2]
      | tup k1 k2 => exact (M.Inv.no_both I h1 k1).elim
  | .tuple ds, e, _, h, h' => by
    cases h with
    | tup h1 h2 =>
      cases h' with
      | tup k1 k2 =>
        have := I.tuple_inj h1 k1
        subst this
        rw [DpAll_inj I ds _ h2 k2]
      | lst k1 k2 => exact (M.Inv.no_both I k1 h1).elim
  | .dict _, e, _, h, _ => by cases h
theorem DpAll_inj (I : Inv X pins σ H s) : ∀ (ds es : List PyData) {vs : List V}, DpAll X.K H vs ds → DpAll X.K H vs es → ds = es
  | [], es, _, h, h' => by cases h; cases h'; rfl
  | d :: ds, es, _, h, h' => by
    cases h with
    | cons h1 h2 =>
      cases h' with
      | cons k1 k2 => rw [Dp_inj I d _ h1 k1, DpAll_inj I ds _ h2 k2]
end
end
end M

namespace M
open PySem PySem.Spec PyProof.Rows L2
section
variable {X : Cx} {T : Tx} {W : WX} {a b c : Expr} {ma mb mc : ME} {pos : Pos}
variable {av av' : Av} {r r' r2 : List Addr} {H H' H2 : Hp} {m m' : Mem}
variable {C f : Addr} {fd : FuncData} {ps : List Str} {k : Nat} {sp : Sp}
noncomputable def DiffI (K : PySem.W.Frag) (H : Hp) (fs gs : List (Str × V)) : Prop := ∃ (i : Nat) (v1 v2 : V) (d e : PyData), (fs.map (·.2))[i]? = some v1 ∧ (gs.map (·.2))[i]? = some v2 ∧ Dp K H v1 d ∧ Dp K H v2 e ∧ d ≠ e
noncomputable def stepI (K : PySem.W.Frag) (C : Addr) (sp : Sp) (x : V) (Q : VK) : List V → Hp → Prop
  | [], H => Q (.bl false) H
  | v :: vs, H => ∃ (p q dx dy : Addr) (fs gs : List (Str × V)) (t : Bool), v = .ref p ∧ x = .ref q ∧ H p = some (.ins C dx fs) ∧ H q = some (.ins C dy gs) ∧ (t = true → Q (.bl true) H) ∧ (t = false → DiffI K H fs gs) ∧
      sp [.ref p, .ref q] H (fun z H' => ∃ t' : Bool, z = .bl t' ∧ t' = t ∧ (t = true → Q (.bl true) H') ∧ (t = false → stepI K C sp x Q vs H')) (fun _ _ _ => False)
theorem eqBool_refl {P : Program} {w : World} {A : Around} {E : Value → Shared → Prop} {s : Shared} {p : Addr} {Q : Bool → Shared → Prop} (h : Q true s) : wpAny (model P w) A (eqBool (.ref p) (.ref p)) Q E s := by
  unfold eqBool
  refine wpAny_holding ?_
  refine wpAny_ite_split (fun _ => ?_) (fun hab => absurd (beq_self_eq_true (Value.ref p)) hab)
  exact wpAny_bind (wpAny_rule (wpAny_pure h))
theorem op_inI (hf : Meth X.K C "__eq__" f) (F : FnOk X.prog X.w X.K X.mg X.base (L2.CX X.prog X.w) k f fd ps sp) (hr : Room (k + 1) X.A) (hb : Binds X.K fd ps []) :
    OpR X (compareOp .In) (fun x y H Q => ∃ a vs, y = .ref a ∧ SqT X.K H a vs ∧ stepI X.K C sp x Q vs H) := by
  intro pins s σ H x y v u Q I rx ry h
  obtain ⟨a, vs, rfl, hs, h⟩ := h
  cases ry
  obtain ⟨its, rv, ⟨⟨cls, dd, data, sl⟩, ho, hc, n, hd⟩, _⟩ := I.tuple hs
  simp only at hc hd
  subst hc hd
  show wpAny _ _ (do return Value.bool (← contains (Value.ref a) v)) _ _ s
  refine wpAny_bind (wpAny_contains_slot ⟨_, ho, rfl⟩ PySem.F.slot_tuple_contains (wpAny_mono (GQ.call_here (Q := fun v s' => ∃ b, v = .bool b ∧ EP X pins σ Q (.bool b) s') PySem.F.slot_tuple_contains ⟨_, ho, rfl⟩ PySem.F.entry_tuple_contains (PySem.F.args_tuple_contains_2 _ _) ?_) (fun v s' hv => ?_) fun _ _ e => e))
  · refine GQ.tuple_containsG a its.toArray n dd sl v (fun i s' => ∃ H', Inv X pins σ H' s' ∧ stepI X.K C sp x Q (vs.drop i) H') (fun i h1 s1 hI => ?_) (fun s1 hI => ?_) ho ⟨H, I, h⟩
    · obtain ⟨H1, I1, st⟩ := hI
      have k1 : i < its.length := by simpa using h1
      have k2 : i < vs.length := by rw [rv.length]; exact k1
      rw [List.drop_eq_getElem_cons k2] at st
      obtain ⟨p, q, dx, dy, fs, gs, t, e1, e2, hp, hq, tt, tf, hsp⟩ := st
      obtain ⟨u, hu, ru⟩ := rv.get (List.getElem?_eq_getElem k2)
      rw [e1] at ru
      cases ru
      subst e2
      cases rx
      have hit : its.toArray[i] = Value.ref p := by
        have : its[i]? = some its[i] := List.getElem?_eq_getElem k1
        rw [this] at hu
        simpa using Option.some.inj hu
      rw [hit]
      by_cases pq : p = q
      · subst pq
        refine eqBool_refl ?_
        rw [hp] at hq
        cases hq
        have ht : t = true := by
          cases t with
          | true => rfl
          | false =>
            obtain ⟨j, v1, v2, d, e, a1, a2, b1, b2, ne⟩ := tf rfl
            rw [a1] at a2
            cases a2
            exact absurd (Dp_inj I1 d e b1 b2) ne
        exact ⟨fun _ => ⟨true, rfl, .bl true, H1, I1, rfl, tt ht⟩, fun z => nomatch z⟩
      · refine GQ.eqBool_refG pq (wpAny_mono (rc_eqI (Q := fun t' H' => t' = t ∧ (t = true → Q (.bl true) H') ∧ (t = false → stepI X.K C sp (.ref q) Q (vs.drop (i + 1)) H')) hf F hr.in1 rfl hb I1 hp hq hsp) (fun z s2 hz => ?_) fun _ _ e => e)
        obtain ⟨t', H2, rfl, I2, rfl, q1, q2⟩ := hz
        exact ⟨t', rfl, fun z => ⟨true, rfl, .bl true, H2, I2, rfl, q1 z⟩, fun z => ⟨H2, I2, q2 z⟩⟩
    · obtain ⟨H1, I1, st⟩ := hI
      have hl : vs.drop its.toArray.size = [] := by
        rw [List.drop_of_length_le]
        rw [rv.length]
        simp
      rw [hl] at st
      exact ⟨false, rfl, .bl false, H1, I1, rfl, st⟩
  · obtain ⟨b, rfl, q⟩ := hv
    exact wpAny_truthy_bool (wpAny_pure q)
end
end M
namespace M
open PySem PySem.Spec PyProof.Rows L2
section
variable {X : Cx} {T : Tx} {W : WX} {av : Av}
variable {f : Addr} {fd : FuncData} {ps : List Str} {k cl : Nat} {mf : MF}
noncomputable def diffI : List PV → List PV → Mem → Bool
  | a :: as, b :: bs, m => (match datM m a, datM m b with
    | some d, some e => SeqAt.shaped d && !PyData.eqv d e
    | _, _ => false) || diffI as bs m
  | _, _, _ => false
theorem diffI_ok (hK : X.K = T.K) {r : List Addr} {H : Hp} {m : Mem} (rm : RM T av r H m) : ∀ {as bs : List PV} {vs ws : List V}, RVs T av r H as vs → RVs T av r H bs ws → diffI as bs m = true →
    ∃ (i : Nat) (v1 v2 : V) (d e : PyData), vs[i]? = some v1 ∧ ws[i]? = some v2 ∧ Dp X.K H v1 d ∧ Dp X.K H v2 e ∧ d ≠ e
  | a :: as, b :: bs, vs, ws, h1, h2, h => by
    unfold RVs at h1 h2
    obtain ⟨v, vs, rfl, p1, p2⟩ := h1
    obtain ⟨w, ws, rfl, q1, q2⟩ := h2
    unfold diffI at h
    rw [Bool.or_eq_true] at h
    rcases h with h | h
    · split at h
      · rename_i d e hd he
        rw [Bool.and_eq_true] at h
        refine ⟨0, v, w, d, e, rfl, rfl, datM_ok hK rm p1 hd, datM_ok hK rm q1 he, fun z => ?_⟩
        subst z
        have := PySem.SeqAt.eqv_refl d (SeqAt.canLay_of_shaped h.1)
        rw [this] at h
        exact absurd h.2 (by decide)
      · cases h
    · obtain ⟨i, v1, v2, d, e, a1, a2, b1, b2, ne⟩ := diffI_ok hK rm p2 q2 h
      exact ⟨i + 1, v1, v2, d, e, by simpa using a1, by simpa using a2, b1, b2, ne⟩
  | [], _, _, _, _, _, h => by unfold diffI at h; cases h
  | _ :: _, [], _, _, _, _, h => by unfold diffI at h; cases h
noncomputable def inI (cl : Nat) (mf : MF) (x : PV) : List PV → Mem → Option PV
  | [], _ => some (.bl false)
  | z :: zs, m => match z, x with
    | .ins c ws, .ins c' ws' => if c == cl && c' == cl then match runP 2 mf [.ins c ws, .ins c' ws'] m with
        | .ok (.bl true) _ => some (.bl true)
        | .ok (.bl false) _ => if diffI ws ws' m then inI cl mf x zs m else none
        | _ => none
      else none
    | _, _ => none
theorem inI_ok (hK : X.K = T.K) {x z : PV} {m : Mem} {Q : VK} : ∀ {xs : List PV} {r : List Addr} {H : Hp} {vs : List V} {w : V}, RM T av r H m → RVs T av r H xs vs → RV T av r H x w → inI cl mf x xs m = some z → KE T av r H Q z m →
    stepI X.K (T.cA cl) (spM T 2 mf) w Q vs H
  | [], r, H, vs, w, rm, rv, rx, e, q => by
    unfold RVs at rv
    subst rv
    unfold inI at e
    cases e
    exact q r H _ .refl rm rv_bl
  | y :: xs, r, H, vs, w, rm, rv, rx, e, q => by
    unfold RVs at rv
    obtain ⟨v, vs, rfl, p1, p2⟩ := rv
    unfold inI at e
    split at e
    · rename_i c ws c' ws'
      split at e
      · rename_i hc
        rw [Bool.and_eq_true] at hc
        obtain ⟨hc1, hc2⟩ := hc
        have hc1 := (eq_of_beq hc1).symm
        have hc2 := (eq_of_beq hc2).symm
        have rargs : RVs T av r H [.ins c ws, .ins c' ws'] [v, w] := by unfold RVs; exact ⟨_, _, rfl, p1, by unfold RVs; exact ⟨_, [], rfl, rx, by unfold RVs; rfl⟩⟩
        subst hc1 hc2
        have p1' := p1
        have rx' := rx
        unfold RV at p1' rx'
        obtain ⟨a, dx, fs, rfl, _, ha, hm, hw⟩ := p1'
        obtain ⟨b, dy, gs, rfl, _, hb, hm2, hw2⟩ := rx'
        split at e
        · rename_i m1 hrun
          cases e
          refine ⟨a, b, dx, dy, fs, gs, true, rfl, rfl, ha, hb, fun _ => q r H _ .refl rm rv_bl, fun z => (nomatch z), sp_callP rm rargs ?_⟩
          rw [hrun]
          have em := runP_same hrun
          subst em
          exact fun r1 H1 w1 g rm1 rv1 => ⟨true, rv1.bl', rfl, fun _ => q r1 H1 _ g rm1 (by unfold RV; rfl), fun z => (nomatch z)⟩
        · rename_i m1 hrun
          split at e
          · rename_i hd
            refine ⟨a, b, dx, dy, fs, gs, false, rfl, rfl, ha, hb, fun z => (nomatch z), fun _ => diffI_ok hK rm hw hw2 hd, sp_callP rm rargs ?_⟩
            rw [hrun]
            have em := runP_same hrun
            rw [em]
            exact fun r1 H1 w1 g rm1 rv1 => ⟨false, rv1.bl', rfl, fun z => (nomatch z), fun _ => inI_ok hK rm1 (p2.grow g) (rx.grow g) e (q.grow g)⟩
          · cases e
        · cases e
      · cases e
    · cases e
noncomputable def fInI (cl : Nat) (mf : MF) : PV → PV → Mem → Option PV := fun x y m => match y with
  | .tup xs => inI cl mf x xs m
  | _ => none
theorem om_inI (hK : X.K = T.K) (hf : Meth X.K (T.cA cl) "__eq__" f) (F : FnOk X.prog X.w X.K X.mg X.base (L2.CX X.prog X.w) k f fd ps (spM T 2 mf)) (hr : Room (k + 1) X.A) (hb : Binds X.K fd ps []) : OpM X T (compareOp .In) (fInI cl mf) := by
  refine ⟨_, op_inI hf F hr hb, fun {av r H m x y z v w Q} rm rv rw e q => ?_⟩
  unfold fInI at e
  split at e
  · obtain ⟨a, vs, rfl, ha, hv⟩ := tup_ok hK rw
    exact ⟨a, vs, rfl, ha, inI_ok hK rm hv rv e q⟩
  · cases e
end
end M

namespace M
open PySem PySem.Spec PyProof.Rows L2
variable {X : Cx} {T : Tx} {W : WX} {a b c : Expr} {ma mb mc : ME} {pos : Pos}
variable {av av' : Av} {r r' r2 : List Addr} {H H' H2 : Hp} {m m' : Mem}
end M

namespace M
open PySem PySem.Spec PyProof.Rows L2
section
variable {prog : Program} {w : World} {A : Around} {R : Result → Shared → Prop} {I : Addr} {fp wr : List Addr} {G : Array GenState → Array GenState → Prop} {n : Nat} {P : Nat → Value → Prop} {St : Nat → Shared → Prop}
theorem loop_setR (W : WalksS prog w A.in1 I fp wr G n P St) (S : Addr) (hSf : S ∉ fp)
    (val : Nat → Int) (hval : ∀ i v, P i v → ∃ t, v = .int (val i) t) (hb : n + 1 < scanBound) :
    ∀ (k i : Nat) (s : Shared), n - i = k → i ≤ n → St i s →
      SetR w s.heap S (fun k' => (firstMet val i).any (· == k')) (firstMet val i).length →
      (∀ s', Moved (S :: wr) G s s' → SetR w s'.heap S (fun k' => (firstMet val n).any (· == k')) (firstMet val n).length → R (.ok (.ret .none)) s') →
      codeAny (model prog w) A (.builtin "set.update.loop" ⟨[.ref S, .ref I], []⟩) R s := by
  have hSw : S ∉ wr := fun h => hSf (W.sub _ h)
  have hsub : ∀ b ∈ wr, b ∈ S :: wr := fun b hb => List.mem_cons_of_mem _ hb
  intro k
  induction k with
  | zero =>
    intro i s hk hi hst hS hR
    have hin : i = n := by omega
    subst hin
    refine codeAny_builtin PyProof.Rows.F.entry_set_update_loop ?_
    rw [Around.under_plainId PyProof.Rows.F.plain_set_update_loop _]
    show wpAny _ A.in1 (pyNext (.ref I) >>= _) _ _ s
    refine wpAny_bind (W.done s _ _ hst fun s' hm => ?_)
    show wpAny _ A.in1 (ret Value.none) _ _ s'
    exact wpAny_pure (hR s' (hm.mono hsub) (hS.at fun o e => hm.heap S o hSw e))
  | succ k ih =>
    intro i s hk hi hst hS hR
    have hlt : i < n := by omega
    refine codeAny_builtin PyProof.Rows.F.entry_set_update_loop ?_
    rw [Around.under_plainId PyProof.Rows.F.plain_set_update_loop _]
    show wpAny _ A.in1 (pyNext (.ref I) >>= _) _ _ s
    refine wpAny_bind (W.item i s _ _ hlt hst fun v s' hP hst' hm => ?_)
    obtain ⟨t, rfl⟩ := hval i v hP
    have hS' := hS.at fun o e => hm.heap S o hSw e
    show wpAny _ A.in1 (holding [Value.int (val i) t] (setAdd S (.int (val i) t)) >>= _) _ _ s'
    refine wpAny_bind (wpAny_holding ?_)
    unfold setAdd
    refine wpAny_holding ?_
    refine wpAny_bind ((intKind prog w).pyHash (k := val i) (intKind_is _ _ _ _) ?_)
    have hroom : (firstMet val i).length + 1 < scanBound := by have := firstMet_length_le val i; omega
    refine setR_add_hashed (s := { s' with toks := s'.toks + 1 }) hS' hroom fun h' hsb hS2 => ?_
    have hSi : SetR w h' S (fun k' => (firstMet val (i + 1)).any (· == k')) (firstMet val (i + 1)).length := by
      have e : (firstMet val (i + 1)).length = if (firstMet val i).any (· == val i) = true then (firstMet val i).length else (firstMet val i).length + 1 := by
        rw [firstMet_succ, step_length]
      rw [e]
      exact hS2.congr fun k' => by rw [firstMet_succ, step_any]
    refine wpAny_pure ⟨plainId_quiet PyProof.Rows.F.plain_set_update_loop _, ih (i + 1) _ (by omega) hlt (W.frame _ s' _ _ hst' (Nat.le_succ _) fun b hb o e => ?_) hSi fun s'' hm'' hS'' => ?_⟩
    · rw [hsb.2 b (fun h : b = S => hSf (by rw [← h]; exact hb))]; exact e
    · refine hR s'' (Moved.trans W.gtrans ((hm.mono hsub).then_heap (Nat.le_succ _) fun b o hb e => ?_) hm'') hS''
      rw [hsb.2 b (fun h : b = S => hb (by rw [h]; exact List.mem_cons_self))]; exact e
end
section
variable {prog : Program} {w : World} {A : Around} {E : Value → Shared → Prop} {s : Shared}
theorem new_set_led (a : Value) {Q₁ : Value → Shared → Prop}
    (h : Q₁ (.ref s.heap.objs.size) { s with heap := s.heap.push { cls := .type "set", dict := none, data := .set #[] 0 (.fresh 0 0 (!w.params.followText "set-order")) } }) :
    codeAny (model prog w) A (.call (.builtin "set.__new__") ⟨[.type "set", a], []⟩) (wants Q₁ E) s := by
  refine codeAny_of_tree ?_
  show wpAny _ A.in1 (do checkBuiltinCall "set.__new__" ⟨[.type "set", a], []⟩; again (.builtin "set.__new__" ⟨[.type "set", a], []⟩)) _ _ s
  refine wpAny_bind (wpAny_of_eq (PySem.F.newCall_set_1 a) (wpAny_pure ⟨plainId_quiet PySem.F.plain_set_new _, codeAny_builtin PySem.F.entry_set_new ?_⟩))
  rw [Around.under_plainId PySem.F.plain_set_new _]
  unfold Builtin.«set.__new__» Builtin.Frozenset.newClass
  have hsub := sub_set_self
  obtain ⟨hp, g, d, tk, os⟩ := s
  dsimp only
  wp_walk
  refine wpAny_askSetting (wpAny_pure ?_)
  dsimp only
  simp only [newObj]
  refine wpAny_bind (wpAny_alloc (wpAny_pure ?_))
  exact wpAny_pure h
set_option maxHeartbeats 3200000 in
theorem set_listR {l : Addr} {items : Array Value} {ns : List Int} {Q : Value → Shared → Prop}
    (hh : A.handled = none) (hl : s.heap.IsList l items) (hi : IntsAre items.toList ns) (hb : items.size + 1 < scanBound)
    (h : ∀ (h' : Heap) (tk : Nat), SetR w h' s.heap.objs.size (fun k' => (firstMet (fun i => ns.getD i 0) items.size).any (· == k')) (firstMet (fun i => ns.getD i 0) items.size).length →
      (∀ b o, s.heap.get? b = some o → h'.get? b = some o) → Q (.ref s.heap.objs.size) { s with heap := h', toks := tk }) :
    wpAny (model prog w) A (call (.type "set") [.ref l]) Q E s := by
  obtain ⟨c, tl, hmro⟩ := PySem.F.called_set.mro
  have hmade := PySem.F.called_set.made
  have hsub := PySem.F.called_set.sub
  refine wpAny_call (codeAny_of_tree ?_)
  show wpAny _ _ (callAny (.type "set") _) _ _ _
  refine wpAny_pure ⟨Code.quiet_builtin _ (by decide +kernel), codeAny_builtin PySem.F.entry_type_call ?_⟩
  rw [Around.under_plain (weight_type_call_type "set" [.ref l] []) rfl]
  have h1 := PySem.F.called_set.notType
  have h2 := PySem.F.called_set.canCreate
  have hct := PySem.F.typeCall_set_1 (.ref l)
  repeat (any_goals (first | assumption | wp_step))
  refine codeAny_mono (new_set_led (.ref l) (E := E) (Q₁ := fun obj s₁ => obj = .ref s.heap.objs.size ∧ s₁ = { s with heap := s.heap.push { cls := .type "set", dict := none, data := .set #[] 0 (.fresh 0 0 (!w.params.followText "set-order")) } }) ⟨rfl, rfl⟩) fun r s₁ hr => ?_
  generalize hled : (!w.params.followText "set-order") = led at hr
  cases r with
  | error e => exact hr
  | ok fl =>
    cases fl with
    | ret obj =>
      obtain ⟨rfl, rfl⟩ := hr
      have hS : (s.heap.push { cls := .type "set", dict := none, data := .set #[] 0 (.fresh 0 0 led) }).get? s.heap.objs.size = some { cls := .type "set", dict := none, data := .set #[] 0 (.fresh 0 0 led) } := Heap.get?_push_size _ rfl
      have hT : Shared.TypeIs { s with heap := s.heap.push { cls := .type "set", dict := none, data := .set #[] 0 (.fresh 0 0 led) } } (.ref s.heap.objs.size) "set" := ⟨_, hS, rfl⟩
      have hli := PySem.F.called_set.init.lookup
      have hbi := PySem.F.called_set.init.bind (.ref s.heap.objs.size)
      repeat (any_goals (first | assumption | wp_step))
      refine codeAny_mono (codeAny_call_builtin (R := wants (fun r s₂ => r = .none ∧ ∃ h' tk, s₂ = { s with heap := h', toks := tk } ∧
          SetR w h' s.heap.objs.size (fun k' => (firstMet (fun i => ns.getD i 0) items.size).any (· == k')) (firstMet (fun i => ns.getD i 0) items.size).length ∧
          (∀ b o, s.heap.get? b = some o → h'.get? b = some o)) E) PySem.F.called_set.init.plain PySem.F.entry_set_init (check_set_init_1 hT ?_)) fun r₂ s₂ hr₂ => ?_
      · obtain ⟨ol, hol, hcl, nl, hdl⟩ := hl
        obtain ⟨ocls, odict, odata, oslots⟩ := ol
        simp only at hcl hdl
        subst hcl; subst hdl
        have hol' : (s.heap.push { cls := .type "set", dict := none, data := .set #[] 0 (.fresh 0 0 led) }).get? l = some { cls := .type "list", dict := odict, data := .seq items nl, slots := oslots } := Heap.get?_push_of_some _ hol
        have hsls := PySem.F.sub_list_set
        have hslf := PySem.F.sub_list_frozenset
        have hne : (Value.type "list" == Value.type "dict") = false := by decide
        have hl1 : (s.heap.push { cls := .type "set", dict := none, data := .set #[] 0 (.fresh 0 0 led) }).IsList l items := ⟨_, hol', rfl, nl, rfl⟩
        unfold Builtin.«set.__init__» noKeywords Builtin.Frozenset.updateFrom
        generalize hPI : pyIter = PI
        wp_walk
        subst hPI
        refine wpAny_pyIter_list hl1 ?_
        refine wpAny_bind (wpAny_runValue ?_)
        have hlS : l < s.heap.objs.size := Heap.lt_size hol
        have hh3 : A.in1.in1.in1.handled = none := by simp [hh]
        have hneI : l ≠ (s.heap.push { cls := .type "set", dict := none, data := .set #[] 0 (.fresh 0 0 led) }).objs.size := by
          rw [Heap.size_push]; exact Nat.ne_of_lt (Nat.lt_succ_of_lt hlS)
        have hSf : s.heap.objs.size ∉ [(s.heap.push { cls := .type "set", dict := none, data := .set #[] 0 (.fresh 0 0 led) }).objs.size, l] := by
          rw [Heap.size_push]; simp only [List.mem_cons, List.mem_singleton, List.not_mem_nil, or_false, not_or]
          exact ⟨Nat.ne_of_lt (Nat.lt_succ_self _), Nat.ne_of_gt hlS⟩
        have hval : ∀ (i : Nat) (v : Value), items[i]? = some v → ∃ t, v = .int ((fun i => ns.getD i 0) i) t := fun i v hv =>
          IntsAre.int_at hi i v (by rw [Array.getElem?_toList]; exact hv)
        refine loop_setR ((Walks.list hh3 _ l hneI items).toS) s.heap.objs.size
          hSf (fun i => ns.getD i 0) hval hb (items.size - 0) 0 _ (by omega) (Nat.zero_le _)
          ⟨⟨_, Heap.get?_push_size _ rfl, rfl, rfl⟩, (hl1.push _)⟩ ?hS0 ?hR
        case hS0 =>
          have q := setR_fresh (h := s.heap) w
          rw [hled] at q
          exact (q.at fun o e => Heap.get?_push_of_some _ e)
        case hR =>
          intro s' hm hS'
          obtain ⟨h', g', d', tk', os'⟩ := s'
          have eg : g' = s.gens := hm.gens
          have ed : d' = s.drawn := hm.drawn
          have eo : os' = s.os := hm.os
          subst eg; subst ed; subst eo
          show wpAny _ _ _ _ _ _
          refine wpAny_pure ?_
          show wpAny _ _ (ret Value.none) _ _ _
          refine wpAny_pure ⟨rfl, h', tk', rfl, hS', fun b o e => ?_⟩
          have hb := Heap.lt_size e
          have hb1 : b ≠ s.heap.objs.size := Nat.ne_of_lt hb
          have hb2 : b ≠ (s.heap.push { cls := .type "set", dict := none, data := .set #[] 0 (.fresh 0 0 led) }).objs.size := by
            rw [Heap.size_push]; exact Nat.ne_of_lt (Nat.lt_succ_of_lt hb)
          exact hm.heap b o (by simp only [List.mem_cons, List.mem_singleton, List.not_mem_nil, or_false, not_or]; exact ⟨hb1, hb2⟩) (Heap.get?_push_of_some _ (Heap.get?_push_of_some _ e))
      · cases r₂ with
        | error e => exact hr₂
        | ok fl₂ =>
          cases fl₂ with
          | ret r =>
            obtain ⟨rfl, h', tk, rfl, hS', hk'⟩ := hr₂
            repeat (any_goals (first | assumption | wp_step))
            exact h _ _ hS' hk'
          | _ => exact hr₂.elim
    | _ => exact hr.elim
theorem sorted_setA {a : Addr} {S : Int → Bool} {n : Nat} {Q : Value → Shared → Prop} (R : SetR w s.heap a S n) (hh : A.handled = none)
    (hQ : ∀ s' p (out : Array Value) (c : Nat) (ns : List Int), (∀ b o, s.heap.get? b = some o → s'.heap.get? b = some o) → s'.gens = s.gens → s'.os = s.os → s.heap.objs.size ≤ p →
      s'.heap.get? p = some (seqObj "list" out c) → IntsAre out.toList ns → ns.Pairwise (· < ·) → (∀ k, k ∈ ns ↔ S k = true) → ns.length = n → Q (.ref p) s') :
    wpAny (model prog w) A (call (.builtin "sorted") [.ref a]) Q E s := by
  obtain ⟨o, es, ep, t, ho, hex, hd, g, nd, hm, hb, hf, hn, hr, hl⟩ := R
  refine Calls.call_function_entry kind_sorted plain_sorted entry_sorted (args_sorted1 _) ?_
  unfold Builtin.«sorted»
  refine wpAny_bind (m := checkCount "sorted" 1 1 _) (wpAny_pure ?_)
  refine wpAny_bind (collect_set (A := A.in1) hh ⟨o, ho, hex.1, hd⟩ hf hb hr hl fun s1 vs k1 hz g1 o1 pm => ?_)
  have hvl : vs.length = n := by rw [pm.length_eq, List.length_map, Array.length_toList]; exact hn
  have hvz : vs.length ≤ sizeLine := by rw [hvl, ← hn, sizeLine_eq]; unfold scanBound at hb; omega
  have hI : IntsAre vs (vs.map Builtin.Re.reRawOf) := ints_of vs fun v hv => by
    obtain ⟨e, he, q⟩ := List.mem_map.mp (pm.mem_iff.mp hv)
    obtain ⟨k, tk, h1, _⟩ := g e he
    exact ⟨k, tk, by rw [← q]; exact h1⟩
  have pk : (vs.map Builtin.Re.reRawOf).Perm (es.toList.map L2.keyOf) := by
    have q := pm.map Builtin.Re.reRawOf
    rw [List.map_map] at q
    exact q
  refine wpAny_bind (wpAny_newList ?_ hvz)
  have hoL : (s1.heap.push (seqObj "list" vs.toArray 0)).get? s1.heap.objs.size = some (seqObj "list" vs.toArray 0) := Heap.get?_push_size _ rfl
  refine wpAny_bind (wpAny_holding (wpAny_call_entry slot_list_sort ⟨_, hoL, rfl⟩ entry_list_sort (SrtO.list_sort_ord SrtO.swo_int hoL hvz (fun h2 => SrtO.ints_sortable hI h2) fun out q1 q2 => ⟨_, rfl, ?_⟩) (args_list_sort _)))
  obtain ⟨a1, a2, a3⟩ := SrtO.ints_out hI q1 q2
  obtain ⟨c, hc⟩ := sortedHeap_at (vs := vs) (out := out.toArray) hoL
  have pn : (out.map SrtO.iv).Perm (es.toList.map L2.keyOf) := a2.trans pk
  refine wpAny_pure ⟨_, rfl, hQ _ s1.heap.objs.size out.toArray c (out.map SrtO.iv) (fun b u e => ?_) g1 o1 hz hc (by simpa using a1) (lt_of_le_nodup _ a3 (pn.nodup_iff.mpr nd)) (fun k => by rw [pn.mem_iff, ← hm k]) ?_⟩
  · have q := k1 b u e
    have hlt := Heap.lt_size q
    show (sortedHeap (s1.heap.push (seqObj "list" vs.toArray 0)) s1.heap.objs.size vs out.toArray).get? b = some u
    rw [sortedHeap_old (Nat.ne_of_lt hlt) (by rw [size_push']; exact Nat.lt_succ_of_lt hlt)]
    exact Heap.get?_push_of_some _ q
  · rw [pn.length_eq, List.length_map, Array.length_toList]; exact hn
end
end M

namespace M
open PySem PySem.Spec PyProof.Rows L2
variable {X : Cx} {T : Tx} {W : WX} {a b c : Expr} {ma mb mc : ME} {mr : MA} {pos p p2 q : Pos}
variable {av av' : Av} {r r' r2 : List Addr} {H H' H2 : Hp} {m m' : Mem}
noncomputable def insU (x : Int) : List Int → List Int
  | [] => [x]
  | y :: ys => if x < y then x :: y :: ys else if x = y then y :: ys else y :: insU x ys
noncomputable def sortU : List Int → List Int
  | [] => []
  | x :: xs => insU x (sortU xs)
theorem insU_mem (x k : Int) : ∀ ys : List Int, k ∈ insU x ys ↔ k = x ∨ k ∈ ys
  | [] => by simp [insU]
  | y :: ys => by
    unfold insU
    split
    · simp
    · split
      · rename_i h
        subst h
        simp
      · rw [List.mem_cons, insU_mem x k ys, List.mem_cons]
        constructor
        · rintro (h | h | h)
          · exact .inr (.inl h)
          · exact .inl h
          · exact .inr (.inr h)
        · rintro (h | h | h)
          · exact .inr (.inl h)
          · exact .inl h
          · exact .inr (.inr h)
theorem sortU_mem (k : Int) : ∀ xs : List Int, k ∈ sortU xs ↔ k ∈ xs
  | [] => by simp [sortU]
  | x :: xs => by
    show k ∈ insU x (sortU xs) ↔ _
    rw [insU_mem, sortU_mem k xs, List.mem_cons]
theorem insU_up (x : Int) : ∀ {ys : List Int}, ys.Pairwise (· < ·) → (insU x ys).Pairwise (· < ·)
  | [], _ => by simp [insU]
  | y :: ys, h => by
    have h' := h
    rw [List.pairwise_cons] at h
    unfold insU
    split
    · rename_i hx
      refine List.pairwise_cons.mpr ⟨fun z hz => ?_, h'⟩
      rcases List.mem_cons.mp hz with e | hz
      · rw [e]; exact hx
      · exact Int.lt_trans hx (h.1 z hz)
    · split
      · exact h'
      · rename_i h1 h2
        refine List.pairwise_cons.mpr ⟨fun z hz => ?_, insU_up x h.2⟩
        rcases (insU_mem x z ys).mp hz with e | hz
        · rw [e]; omega
        · exact h.1 z hz
theorem sortU_up : ∀ xs : List Int, (sortU xs).Pairwise (· < ·)
  | [] => .nil
  | x :: xs => insU_up x (sortU_up xs)
theorem upU_unique : ∀ {xs ys : List Int}, (∀ k, k ∈ xs ↔ k ∈ ys) → xs.Pairwise (· < ·) → ys.Pairwise (· < ·) → xs = ys
  | [], [], _, _, _ => rfl
  | [], y :: ys, h, _, _ => by have := (h y).mpr List.mem_cons_self; cases this
  | x :: xs, [], h, _, _ => by have := (h x).mp List.mem_cons_self; cases this
  | x :: xs, y :: ys, h, hx, hy => by
    rw [List.pairwise_cons] at hx hy
    have e : x = y := by
      rcases List.mem_cons.mp ((h x).mp List.mem_cons_self) with e | m1
      · exact e
      · rcases List.mem_cons.mp ((h y).mpr List.mem_cons_self) with e | m2
        · exact e.symm
        · have q1 := hx.1 y m2
          have q2 := hy.1 x m1
          omega
    subst e
    rw [upU_unique (fun k => ?_) hx.2 hy.2]
    constructor
    · intro m1
      rcases List.mem_cons.mp ((h k).mp (List.mem_cons_of_mem _ m1)) with e | m2
      · have q1 := hx.1 k m1
        omega
      · exact m2
    · intro m1
      rcases List.mem_cons.mp ((h k).mpr (List.mem_cons_of_mem _ m1)) with e | m2
      · have q1 := hy.1 k m1
        omega
      · exact m2
noncomputable def setC (ns : List Int) : Nat := (firstMet (fun i => ns.getD i 0) ns.length).length
theorem getD_map : ∀ (ns : List Int), (List.range ns.length).map (fun i => ns.getD i 0) = ns := fun ns => by
  apply List.ext_getElem?
  intro i
  rw [List.getElem?_map]
  by_cases h : i < ns.length
  · rw [List.getElem?_range h]
    simp [List.getD, h]
  · rw [List.getElem?_eq_none (by simpa using h), List.getElem?_eq_none (by omega)]
    rfl
theorem met_any (ns : List Int) (k : Int) : (firstMet (fun i => ns.getD i 0) ns.length).any (· == k) = ns.any (· == k) := by
  rw [firstMet_any, getD_map]
noncomputable def rSetI (K : PySem.W.Frag) (w : World) : List V → Hp → VK → Prop := fun xs H Q => ∃ (l : Addr) (ns : List Int), xs = [V.ref l] ∧ SqL K H l (ns.map V.int) ∧ ns.length ≤ 4000 ∧
  ∀ p, H p = none → Q (.ref p) (upd H p (SetO w p (fun k' => ns.any (· == k')) (setC ns)))
theorem cr_setI (hc : X.calm = true) : CallR X (.type "set") (rSetI X.K X.w) := by
  intro pins s σ H xs us Q I rv h
  obtain ⟨l, ns, rfl, hq, hl, q1⟩ := h
  obtain ⟨u, rfl, ru⟩ := rv.one
  cases ru
  obtain ⟨its, ri, pl, hz⟩ := I.list hq
  have hlen : its.toArray.size = ns.length := by rw [List.size_toArray, ← ri.length, List.length_map]
  refine set_listR (ns := ns) (I.ok.hd hc) pl.isList (by simpa using ri.ints) (by rw [hlen]; unfold scanBound; omega) fun h' tk R hk => ?_
  rw [hlen] at R
  have R' := R.congr (S' := fun k' => ns.any (· == k')) fun k => (met_any ns k).symm
  exact ⟨.ref _, _, I.laid (t' := tk) hk (Nat.le_refl _) (setO_new R'), rfl, q1 _ (I.hok.fresh (Nat.le_refl _))⟩
noncomputable def rSortedSetA (w : World) : List V → Hp → VK → Prop := fun vs H Q => ∃ (a : Addr) (S : Int → Bool) (n : Nat), vs = [V.ref a] ∧ H a = some (SetO w a S n) ∧
  ∀ (ns : List Int) (p : Addr), ns.Pairwise (· < ·) → (∀ k : Int, k ∈ ns ↔ S k = true) → H p = none → Q (.ref p) (upd H p (.lst (ns.map V.int)))
theorem cr_sortedSetA (hc : X.calm = true) : CallR X (.builtin "sorted") (rSortedSetA X.w) := by
  intro pins s σ H vs us Q I rv h
  obtain ⟨a, S, n, rfl, ha, q⟩ := h
  have R := setO_get I ha
  have hn : n < scanBound := by
    obtain ⟨o, es, ep, t, _, _, _, _, _, _, hb, _, e, _⟩ := R
    rw [← e]
    exact hb
  rw [Vals.ref1 rv]
  refine sorted_setA R (I.ok.hd hc) fun s' p out c ns k g o hp hg hi hs hm hl => ?_
  have hlen : (ns.map V.int).length ≤ sizeLine := by rw [List.length_map, hl, sizeLine_eq]; unfold scanBound at hn; omega
  have hn : H p = none := I.hok.fresh hp
  have J : Inv X pins σ (upd H p (.lst (ns.map V.int))) { s with heap := s'.heap, gens := s'.gens, drawn := s'.drawn, toks := s'.toks } :=
    I.call (ch := []) (Un.laid k hp hn) (I.hok.laid k hp ⟨hlen, out.toList, c, vals_of_ints hi, hg⟩) (by rw [g]; exact I.bare) (fun _ z => nomatch z)
  have e : s' = { s with heap := s'.heap, gens := s'.gens, drawn := s'.drawn, toks := s'.toks } := by
    cases s'
    cases s
    cases o
    rfl
  rw [e]
  exact ⟨.ref p, _, J, rfl, q ns p hs hm hn⟩
noncomputable def cSetU : List PV → Mem → Option (List Int)
  | [x], m => match lstOf x m with
    | some ys => match intsOf ys with
      | some ns => if Nat.ble ns.length 4000 then some (sortU ns) else none
      | none => none
    | none => none
  | _, _ => none
theorem cSetU_ok {xs : List PV} {vs : List V} {z : List Int} (rm : RM T av r H m) (rv : RVs T av r H xs vs) (h : cSetU xs m = some z) : ∃ (l : Addr) (ns : List Int), vs = [V.ref l] ∧ SqL X.K H l (ns.map V.int) ∧ ns.length ≤ 4000 ∧ z = sortU ns := by
  unfold cSetU at h
  split at h
  · rename_i x m
    split at h
    · rename_i ys hy
      split at h
      · rename_i ns hn
        split at h
        · rename_i hk
          cases h
          obtain ⟨v, rfl, hv⟩ := rvs1 rv
          obtain ⟨p, ws, rfl, hp, hw⟩ := lstOf_ok rm hv hy
          rw [intsOf_eq hn] at hw
          rw [rvs_ints hw] at hp
          exact ⟨p, ns, rfl, .inl hp, Nat.le_of_ble_eq_true hk, rfl⟩
        · cases h
      · cases h
    · cases h
  · cases h
noncomputable def cSortSet : List PV → Mem → Option (List PV) := fun xs m => (cSetU xs m).map (·.map PV.int)
theorem sf_sortSet (hc : X.calm = true) (hg : Gl X "sorted") (hm : X.mg "sorted" = none) (hg2 : Gl X "set") (hm2 : X.mg "set" = none) (ha : SA X T W [a] mr)
    (he : starEach [a] X.env = (false, eval a X.env) :: starEach [] X.env := by rfl) (hpl : (backTo q (starEach [] X.env)).any (·.1) = false := by rfl)
    (he2 : starEach [Expr.Call (.Name "set" p2) [a] [] q] X.env = (false, eval (Expr.Call (.Name "set" p2) [a] [] q) X.env) :: starEach [] X.env := by rfl) (hpl2 : (backTo pos (starEach [] X.env)).any (·.1) = false := by rfl) :
    SF X T W (.Call (.Name "sorted" p) [.Call (.Name "set" p2) [a] [] q] [] pos) (mCl cSortSet mr) :=
  ⟨PE.imp (pe_callB (cr_sortedSetA hc) hg hm rfl (pa_cons (pe_callTy (cr_setI hc) hg2 hm2 rfl ha.pa (by decide) (by decide) he hpl) pa_nil he2) (by decide) (by decide) he2 hpl2) fun σ H Q ⟨av, r, e, m, re, rm, h⟩ =>
    ⟨av, r, e, m, re, rm, okR_imp (okR_bind h) fun xs m1 h r1 H1 vs g1 rm1 rvs => by
      obtain ⟨z, hz, k⟩ := okR_oP h
      unfold cSortSet at hz
      cases hu : cSetU xs m1 with
      | none => rw [hu] at hz; cases hz
      | some zs =>
        rw [hu] at hz
        cases hz
        obtain ⟨l, ns, rfl, hl, hn, rfl⟩ := cSetU_ok (X := X) rm1 rvs hu
        refine ⟨l, ns, rfl, hl, hn, fun p hp => ⟨p, _, _, rfl, upd_same, fun ks p2 up mem hp2 => ?_⟩⟩
        have e1 : ks = sortU ns := upU_unique (fun k => by
          rw [mem k, sortU_mem, List.any_eq_true]
          constructor
          · rintro ⟨y, hy, ey⟩
            rw [← eq_of_beq ey]
            exact hy
          · intro hk
            exact ⟨k, hk, beq_self_eq_true k⟩) up (sortU_up ns)
        rw [e1]
        exact kf_new (rm1.pass hp) hp2 (rvs_intsB _) (k.grow (g1.trans (grow_upd hp)))⟩⟩
end M

namespace M
open PySem PySem.Spec PyProof.Rows L2
variable {X : Cx} {T : Tx} {W : WX} {a b c : Expr} {ma mb mc : ME} {mt mu : MT} {ms mv : MS} {pos pos' apos : Pos} {st : Stmt} {rest sts : List Stmt}
variable {av av' : Av} {r r' r2 : List Addr} {H H' H2 : Hp} {m m' : Mem} {tg iter : Expr}
section
variable {pins : List (Addr × Obj)} {σ : L2.St} {s : Shared} {xs : NXs} {p q : Addr} {k : NestedKey} {A : Around} {E : Value → Shared → Prop}
end
section
variable {o e f : Expr} {td ty tx : TE} {cpos : Pos}
end
end M

namespace M
open PySem PySem.Spec PyProof.Rows L2
variable {X : Cx} {T : Tx} {W : WX} {a b c : Expr} {ma mb mc : ME}
variable {av av' : Av} {r r' r2 : List Addr} {H H' H2 : Hp} {m m' : Mem}
end M

namespace M
open PySem PySem.Spec PyProof.Rows L2
variable {X : Cx} {T : Tx} {W : WX} {a b c e : Expr} {ma mb mc : ME} {p apos cpos pos : Pos} {te : TE}
variable {av av' : Av} {r r' r2 : List Addr} {H H' H2 : Hp} {m m' : Mem}
end M

namespace M
open PySem PySem.Spec PyProof.Rows L2
variable {X : Cx} {T : Tx} {W : WX} {a b c : Expr} {ma mb mc : ME} {mt mu : MT} {ms mv : MS} {pos : Pos} {st : Stmt} {rest sts : List Stmt}
variable {av av' : Av} {r r' r2 : List Addr} {H H' H2 : Hp} {m m' : Mem} {tg iter : Expr}
variable {x : Str} {p apos : Pos} {es : List Expr} {mr : MA} {f : Addr} {fd : FuncData} {ps : List Str} {k n : Nat} {mf : MF} {E : XK}
end M

namespace M
open PySem PySem.Spec PyProof.Rows L2
variable {X : Cx} {T : Tx} {W : WX}
variable {av av' : Av} {r r' r2 : List Addr} {H H' H2 : Hp} {m m' : Mem}
noncomputable abbrev topB : Int := 18446744073709551616
noncomputable def tpI (ns : List Int) : PV := .tup (ns.map PV.int)
noncomputable def tsI : List PV → Option (List (List Int))
  | [] => some []
  | .tup ys :: xs => match intsOf ys, tsI xs with
    | some ns, some L => some (ns :: L)
    | _, _ => none
  | _ => none
theorem tsI_eq : ∀ {xs : List PV} {L : List (List Int)}, tsI xs = some L → xs = L.map tpI
  | [], L, h => by cases h; rfl
  | x :: xs, L, h => by
    cases x <;> simp only [tsI] at h <;> try cases h
    split at h
    · rename_i ns L' h1 h2
      cases h
      rw [List.map_cons, ← tsI_eq h2, tpI, ← intsOf_eq h1]
    · cases h
noncomputable def nsOf : PV → List Int
  | .tup ys => (intsOf ys).getD []
  | _ => []
theorem nsOf_tp (ns : List Int) : nsOf (tpI ns) = ns := by
  show (intsOf (ns.map PV.int)).getD [] = ns
  rw [intsOf_int]
  rfl
theorem perm_tp {xs : List PV} {L : List (List Int)} (h : xs.Perm (L.map tpI)) : ∃ L' : List (List Int), L'.Perm L ∧ xs = L'.map tpI := by
  refine ⟨xs.map nsOf, ?_, ?_⟩
  · have q := h.map nsOf
    rw [List.map_map] at q
    have e : (nsOf ∘ tpI) = id := funext nsOf_tp
    rw [e, List.map_id] at q
    exact q
  · rw [List.map_map]
    have e : ∀ x ∈ xs, (tpI ∘ nsOf) x = x := fun x hx => by
      obtain ⟨ns, _, rfl⟩ := List.mem_map.mp (h.mem_iff.mp hx)
      show tpI (nsOf (tpI ns)) = tpI ns
      rw [nsOf_tp]
    conv => lhs; rw [← List.map_id xs]
    exact List.map_congr_left fun x hx => (e x hx).symm
theorem rvs_cons {xs : List PV} {v : V} {vs : List V} (h : RVs T av r H xs (v :: vs)) : ∃ p ps, xs = p :: ps ∧ RV T av r H p v ∧ RVs T av r H ps vs := by
  cases xs with
  | nil => unfold RVs at h; cases h
  | cons p ps =>
    unfold RVs at h
    obtain ⟨_, _, e, h1, h2⟩ := h
    cases e
    exact ⟨p, ps, rfl, h1, h2⟩
theorem rvs_mk {p : PV} {ps : List PV} {v : V} {vs : List V} (h1 : RV T av r H p v) (h2 : RVs T av r H ps vs) : RVs T av r H (p :: ps) (v :: vs) := by
  unfold RVs
  exact ⟨v, vs, rfl, h1, h2⟩
theorem rvs_perm {ys vs : List V} (h : ys.Perm vs) : ∀ {xs : List PV}, RVs T av r H xs vs → ∃ xs' : List PV, xs'.Perm xs ∧ RVs T av r H xs' ys := by
  induction h with
  | nil => exact fun {xs} rv => ⟨xs, .refl _, rv⟩
  | cons x h ih =>
    intro xs rv
    obtain ⟨p, ps, rfl, h1, h2⟩ := rvs_cons rv
    obtain ⟨ps', q1, q2⟩ := ih h2
    exact ⟨p :: ps', q1.cons p, rvs_mk h1 q2⟩
  | swap x y l =>
    intro xs rv
    obtain ⟨p, ps, rfl, h1, h2⟩ := rvs_cons rv
    obtain ⟨q, qs, rfl, h3, h4⟩ := rvs_cons h2
    exact ⟨q :: p :: qs, .swap p q qs, rvs_mk h3 (rvs_mk h1 h4)⟩
  | trans h1 h2 ih1 ih2 =>
    intro xs rv
    obtain ⟨xs2, q1, q2⟩ := ih2 rv
    obtain ⟨xs1, q3, q4⟩ := ih1 q2
    exact ⟨xs1, q3.trans q1, q4⟩
noncomputable abbrev cdI (ns : List Int) : Int := TS.code topB ns
noncomputable def insC (x : List Int) : List (List Int) → List (List Int)
  | [] => [x]
  | y :: ys => if cdI x ≤ cdI y then x :: y :: ys else y :: insC x ys
noncomputable def sortC : List (List Int) → List (List Int)
  | [] => []
  | x :: xs => insC x (sortC xs)
theorem insC_perm (x : List Int) : ∀ ys : List (List Int), (insC x ys).Perm (x :: ys)
  | [] => .refl _
  | y :: ys => by
    unfold insC
    split
    · exact .refl _
    · exact ((insC_perm x ys).cons y).trans (.swap x y ys)
theorem sortC_perm : ∀ xs : List (List Int), (sortC xs).Perm xs
  | [] => .refl _
  | x :: xs => (insC_perm x _).trans ((sortC_perm xs).cons x)
theorem insC_up (x : List Int) : ∀ {ys : List (List Int)}, ys.Pairwise (fun a b => cdI a ≤ cdI b) → (insC x ys).Pairwise (fun a b => cdI a ≤ cdI b)
  | [], _ => by simp [insC]
  | y :: ys, h => by
    rw [List.pairwise_cons] at h
    unfold insC
    split
    · rename_i hx
      refine List.pairwise_cons.mpr ⟨fun z hz => ?_, List.pairwise_cons.mpr h⟩
      rcases List.mem_cons.mp hz with e | hz
      · rw [e]; exact hx
      · exact Int.le_trans hx (h.1 z hz)
    · rename_i hx
      refine List.pairwise_cons.mpr ⟨fun z hz => ?_, insC_up x h.2⟩
      rcases List.mem_cons.mp ((insC_perm x ys).mem_iff.mp hz) with e | hz
      · rw [e]; omega
      · exact h.1 z hz
theorem sortC_up : ∀ xs : List (List Int), (sortC xs).Pairwise (fun a b => cdI a ≤ cdI b)
  | [] => .nil
  | x :: xs => insC_up x (sortC_up xs)
theorem upC_unique : ∀ {xs ys : List (List Int)}, xs.Perm ys → xs.Pairwise (fun a b => cdI a ≤ cdI b) → ys.Pairwise (fun a b => cdI a ≤ cdI b) → (∀ x ∈ xs, ∀ y ∈ xs, cdI x = cdI y → x = y) → xs = ys
  | [], ys, h, _, _, _ => (List.nil_perm.mp h).symm
  | x :: xs, [], h, _, _, _ => (List.perm_nil.mp h)
  | x :: xs, y :: ys, h, hx, hy, inj => by
    rw [List.pairwise_cons] at hx hy
    have e : x = y := by
      rcases List.mem_cons.mp (h.mem_iff.mp List.mem_cons_self) with e | m1
      · exact e
      · rcases List.mem_cons.mp (h.mem_iff.mpr List.mem_cons_self) with e | m2
        · exact e.symm
        · exact inj x List.mem_cons_self y (List.mem_cons_of_mem _ m2) (Int.le_antisymm (hx.1 y m2) (hy.1 x m1))
    subst e
    rw [upC_unique (List.Perm.cons_inv h) hx.2 hy.2 fun a ha b hb => inj a (List.mem_cons_of_mem _ ha) b (List.mem_cons_of_mem _ hb)]
theorem code_inj : ∀ {n q : List Int}, n.length = q.length → TS.Bd topB n → TS.Bd topB q → cdI n = cdI q → n = q
  | [], [], _, _, _, _ => rfl
  | [], _ :: _, h, _, _, _ => by simp at h
  | _ :: _, [], h, _, _, _ => by simp at h
  | d :: n, e :: q, h, h1, h2, hc => by
    have hl : n.length = q.length := by simpa using h
    have hc' : TS.code topB (d :: n) = TS.code topB (e :: q) := hc
    have de : d = e := by
      rcases Int.lt_trichotomy d e with z | z | z
      · have := TS.code_lt hl h1.tail h2.tail z
        omega
      · exact z
      · have := TS.code_lt hl.symm h2.tail h1.tail z
        omega
    subst de
    have hr : cdI n = cdI q := by
      have e1 : TS.code topB (d :: n) = d * topB ^ n.length + TS.code topB n := rfl
      have e2 : TS.code topB (d :: q) = d * topB ^ q.length + TS.code topB q := rfl
      rw [e1, e2, hl] at hc'
      show TS.code topB n = TS.code topB q
      omega
    rw [code_inj hl h1.tail h2.tail hr]
theorem cr_sortTd : CallR X (.builtin "sorted") (fun vs H Q => ∃ d, 1 ≤ d ∧ rSortU X.K d topB vs H Q) := by
  intro pins s σ H vs us Q I rv h
  obtain ⟨d, hd, h⟩ := h
  exact cr_sortT hd pins s σ H vs us Q I rv h
noncomputable def inB (ns : List Int) : Bool := ns.all fun n => decide (0 ≤ n) && decide (n < topB)
noncomputable def okT2 (L : List (List Int)) : Bool := match L with
  | [] => true
  | n :: _ => Nat.ble 1 n.length && L.all (fun q => q.length == n.length && inB q) && Nat.ble L.length 63
noncomputable def dOf (L : List (List Int)) : Nat := match L with
  | [] => 1
  | n :: _ => n.length
theorem okT2_ok {L : List (List Int)} (h : okT2 L = true) : 1 ≤ dOf L ∧ L.length < 64 ∧ ∀ n ∈ L, n.length = dOf L ∧ TS.Bd topB n := by
  cases L with
  | nil => exact ⟨Nat.le_refl _, by simp, fun n hn => (List.not_mem_nil hn).elim⟩
  | cons n L =>
    unfold okT2 at h
    rw [Bool.and_eq_true, Bool.and_eq_true] at h
    refine ⟨Nat.le_of_ble_eq_true h.1.1, by have := Nat.le_of_ble_eq_true h.2; omega, fun q hq => ?_⟩
    have z := List.all_eq_true.mp h.1.2 q hq
    rw [Bool.and_eq_true] at z
    refine ⟨eq_of_beq z.1, fun k hk => ?_⟩
    have y := List.all_eq_true.mp z.2 k hk
    rw [Bool.and_eq_true] at y
    exact ⟨of_decide_eq_true y.1, of_decide_eq_true y.2⟩
noncomputable def cSortT : List PV → Mem → Option (List PV)
  | [x], m => match lstOf x m with
    | some ys => match tsI ys with
      | some L => if okT2 L then some ((sortC L).map tpI) else none
      | none => none
    | none => none
  | _, _ => none
theorem tupI_of (hK : X.K = T.K) {ns : List Int} {v : V} (rv : RV T av r H (tpI ns) v) : TupI X.K H v ns := by
  obtain ⟨p, ws, rfl, hp, hw⟩ := tup_ok hK rv
  rw [rvs_ints hw] at hp
  exact ⟨p, rfl, hp⟩
theorem tupI_all (hK : X.K = T.K) : ∀ {L : List (List Int)} {vs : List V}, RVs T av r H (L.map tpI) vs → ∀ v ∈ vs, ∃ ns ∈ L, TupI X.K H v ns
  | [], vs, h, v, hv => by
    unfold RVs at h
    rw [h] at hv
    cases hv
  | n :: L, vs, h, v, hv => by
    rw [List.map_cons] at h
    unfold RVs at h
    obtain ⟨w, ws, rfl, h1, h2⟩ := h
    rcases List.mem_cons.mp hv with rfl | hv
    · exact ⟨n, List.mem_cons_self, tupI_of hK h1⟩
    · obtain ⟨q, hq, t⟩ := tupI_all hK h2 v hv
      exact ⟨q, List.mem_cons_of_mem _ hq, t⟩
theorem pw_ts (hK : X.K = T.K) : ∀ {L : List (List Int)} {vs : List V}, RVs T av r H (L.map tpI) vs → vs.Pairwise (fun x y => ∀ n m, TupI X.K H x n → TupI X.K H y m → TS.code topB n ≤ TS.code topB m) → L.Pairwise (fun a b => cdI a ≤ cdI b)
  | [], _, _, _ => .nil
  | n :: L, vs, h, pw => by
    rw [List.map_cons] at h
    unfold RVs at h
    obtain ⟨w, ws, rfl, h1, h2⟩ := h
    rw [List.pairwise_cons] at pw
    refine List.pairwise_cons.mpr ⟨fun q hq => ?_, pw_ts hK h2 pw.2⟩
    obtain ⟨v, hv, t⟩ : ∃ v ∈ ws, TupI X.K H v q := by
      clear pw
      revert ws
      induction L with
      | nil => cases hq
      | cons l L ih =>
        intro ws h2
        rw [List.map_cons] at h2
        unfold RVs at h2
        obtain ⟨v, vs', rfl, k1, k2⟩ := h2
        rcases List.mem_cons.mp hq with rfl | hq
        · exact ⟨v, List.mem_cons_self, tupI_of hK k1⟩
        · obtain ⟨u, hu, t⟩ := ih hq vs' k2
          exact ⟨u, List.mem_cons_of_mem _ hu, t⟩
    exact pw.1 v hv n q (tupI_of hK h1) t
theorem cf_sortT (hK : X.K = T.K) : ClF X T (.builtin "sorted") cSortT := by
  refine ⟨_, cr_sortTd, fun {av r H m xs z vs Q} rm rv e k => ?_⟩
  unfold cSortT at e
  split at e
  · rename_i x m
    split at e
    · rename_i ys hy
      split at e
      · rename_i L hL
        split at e
        · rename_i hk
          cases e
          obtain ⟨v, rfl, hv⟩ := rvs1 rv
          obtain ⟨p, ws, rfl, hp, hw⟩ := lstOf_ok rm hv hy
          rw [tsI_eq hL] at hw
          obtain ⟨k1, k2, k3⟩ := okT2_ok hk
          refine ⟨dOf L, k1, p, ws, rfl, .inl hp, ?_, fun x hx => ?_, fun zs q pm pw hq => ?_⟩
          · rw [hw.length, List.length_map]
            exact k2
          · obtain ⟨ns, hn, t⟩ := tupI_all hK hw x hx
            exact ⟨ns, t, k3 ns hn⟩
          · obtain ⟨xs', pm2, rv2⟩ := rvs_perm pm hw
            obtain ⟨L', pm3, rfl⟩ := perm_tp pm2
            have e1 : L' = sortC L := upC_unique (pm3.trans (sortC_perm L).symm) (pw_ts hK rv2 pw) (sortC_up L) fun a ha b hb hc => by
              obtain ⟨a1, a2⟩ := k3 a (pm3.mem_iff.mp ha)
              obtain ⟨b1, b2⟩ := k3 b (pm3.mem_iff.mp hb)
              exact code_inj (a1.trans b1.symm) a2 b2 hc
            rw [e1] at rv2
            exact kf_new rm hq rv2 k
        · cases e
      · cases e
    · cases e
  · cases e
end M

namespace M
open PySem PySem.Spec PyProof.Rows L2
noncomputable def ZipAt (h : Heap) (z TI TO : Addr) : Prop := ∃ f0 f1 : Value, h.get? z = some { cls := .type "zip", dict := none, data := .fields #[f0, f1, .bool false, .ref TI, .ref TO], slots := #[] } ∧ (f0 = .none ∨ ∃ T : Nat, f0 = rawInt T)
noncomputable def TupAt (h : Heap) (T : Addr) (vs : List Value) : Prop := h.get? T = some { cls := .type "tuple", data := .seq vs.toArray }
section
variable {prog : Program} {w : World} {A : Around} {E : Value → Shared → Prop} {s : Shared}
noncomputable abbrev ZS := Bool × Addr × Addr
noncomputable abbrev refsOf (L : List ZS) : List Value := L.map fun p => Value.ref p.2.1
structure ZSep (L : List ZS) (z TI TO : Addr) : Prop where
  Tz : TI ≠ z
  Oz : TO ≠ z
  IO : TI ≠ TO
  zi : ∀ p ∈ L, p.2.1 ≠ z
  Ti : ∀ p ∈ L, p.2.1 ≠ TI
  Oi : ∀ p ∈ L, p.2.1 ≠ TO
  Oa : ∀ p ∈ L, p.2.2 ≠ TO
  nd : (L.map fun p => p.2.1).Nodup
noncomputable def ZSt (h : Heap) (L : List ZS) (j k : Nat) : Prop := ∀ (l : Nat) (p : ZS), L[l]? = some p → ItB h p.1 p.2.1 p.2.2 (if l < k then j + 1 else j)
noncomputable def ZKeep (L : List ZS) (z TO : Addr) (h h' : Heap) : Prop := ∀ c o, c ≠ z → c ≠ TO → (∀ p ∈ L, c ≠ p.2.1) → h.get? c = some o → h'.get? c = some o
theorem nd_at {L : List ZS} (nd : (L.map fun p => p.2.1).Nodup) {l k : Nat} {p q : ZS} (hl : L[l]? = some p) (hk : L[k]? = some q) (e : p.2.1 = q.2.1) : l = k := by
  have h1 : (L.map fun p => p.2.1)[l]? = some p.2.1 := by rw [List.getElem?_map, hl]; rfl
  have h2 : (L.map fun p => p.2.1)[k]? = some q.2.1 := by rw [List.getElem?_map, hk]; rfl
  rw [← e] at h2
  have b1 := (List.getElem?_eq_some_iff.mp h1).1
  exact (List.getElem?_inj b1 nd).mp (h1.trans h2.symm)
theorem ZSt.step {h h' : Heap} {L : List ZS} {j k : Nat} {p : ZS} (nd : (L.map fun p => p.2.1).Nodup) (S : ZSt h L j k) (hp : L[k]? = some p) (h1 : ItB h' p.1 p.2.1 p.2.2 (j + 1)) (sb : ∀ b o, b ≠ p.2.1 → h.get? b = some o → h'.get? b = some o) : ZSt h' L j (k + 1) := by
  intro l q hq
  by_cases e : l = k
  · subst e
    rw [hp] at hq
    cases hq
    rw [if_pos (Nat.lt_succ_self _)]
    exact h1
  · have ne : q.2.1 ≠ p.2.1 := fun z => e (nd_at nd hq hp z)
    have q1 := (S l q hq).keep fun o x => sb _ _ ne x
    have c : (l < k + 1) ↔ (l < k) := by omega
    simp only [c]
    exact q1
theorem ZSt.keep {h h' : Heap} {L : List ZS} {j k : Nat} (S : ZSt h L j k) (g : ∀ p ∈ L, ∀ o, h.get? p.2.1 = some o → h'.get? p.2.1 = some o) : ZSt h' L j k := fun l p hp => (S l p hp).keep (g p (List.mem_of_getElem? hp))
end
end M

namespace M
open PySem PySem.Spec PyProof.Rows L2
section
variable {prog : Program} {w : World} {A : Around} {E : Value → Shared → Prop} {s : Shared}
structure ZJ (L : List ZS) (its : ZS → Array Value) (z TI TO : Addr) (j : Nat) (hp : Heap) (i : Nat) (h : Heap) (zs : List Value) : Prop where
  ti : TupAt h TI (refsOf L)
  st : ZSt h L j i
  bs : ∀ p ∈ L, IsB h p.1 p.2.2 (its p)
  kp : ZKeep L z TO hp h
  sz : h.objs.size = hp.objs.size
  done : ∀ (l : Nat) (p : ZS), l < i → L[l]? = some p → ∃ x, (its p)[j]? = some x ∧ zs[l]? = some x
theorem zkeep_one {L : List ZS} {z TO x : Addr} {hp h h' : Heap} (k : ZKeep L z TO hp h) (sb : Heap.ExtBut x h h') (hx : x = z ∨ x = TO ∨ ∃ p ∈ L, x = p.2.1) : ZKeep L z TO hp h' := fun c o cz cT ci e => by
  refine sb _ _ (fun q => ?_) (k c o cz cT ci e)
  rcases hx with r | r | ⟨p, hp, r⟩
  · exact cz (q.trans r)
  · exact cT (q.trans r)
  · exact ci p hp (q.trans r)
theorem ZJ.other {L : List ZS} {its : ZS → Array Value} {z TI TO x : Addr} {j i : Nat} {hp h h' : Heap} {zs : List Value} (S : ZSep L z TI TO) (J : ZJ L its z TI TO j hp i h zs) (sb : Heap.SameBut x h h') (hx : x = z ∨ x = TO) (hz : ∃ o, h.get? z = some o ∧ o.cls = .type "zip") : ZJ L its z TI TO j hp i h' zs where
  ti := sb.extBut _ _ (by rcases hx with r | r <;> rw [r]; exact S.Tz; exact S.IO) J.ti
  st := J.st.keep fun p hp o e => sb.extBut _ _ (by rcases hx with r | r <;> rw [r]; exact S.zi p hp; exact S.Oi p hp) e
  bs := fun p hp => (J.bs p hp).keep fun o e => sb.extBut _ _ (by
    rcases hx with r | r <;> rw [r]
    · intro q
      obtain ⟨o1, e1, c1, _⟩ := (J.bs p hp).cls
      obtain ⟨o2, e2, c2⟩ := hz
      rw [q] at e1
      cases e1.symm.trans e2
      rcases c1 with c | c <;> rw [c] at c2 <;> exact absurd c2 (by decide)
    · exact S.Oa p hp) e
  kp := zkeep_one J.kp sb.extBut (by rcases hx with r | r; exact .inl r; exact .inr (.inl r))
  sz := by rw [sb.1]; exact J.sz
  done := J.done
theorem ZJ.next {L : List ZS} {its : ZS → Array Value} {z TI TO : Addr} {j i : Nat} {hp h h' : Heap} {zs zs' : List Value} {p : ZS} {x : Value} (S : ZSep L z TI TO) (J : ZJ L its z TI TO j hp i h zs) (hpi : L[i]? = some p) (hx : (its p)[j]? = some x)
    (h1 : ItB h' p.1 p.2.1 p.2.2 (j + 1)) (sb : Heap.SameBut p.2.1 h h') (e1 : ∀ l, l < i → zs'[l]? = zs[l]?) (e2 : zs'[i]? = some x) : ZJ L its z TI TO j hp (i + 1) h' zs' where
  ti := sb.extBut _ _ (fun q => S.Ti p (List.mem_of_getElem? hpi) q.symm) J.ti
  st := J.st.step S.nd hpi h1 fun b o hb e => sb.extBut _ _ hb e
  bs := fun q hq => (J.bs q hq).keep fun o e => sb.extBut _ _ (fun r => by
    have y := J.st i p hpi
    rw [if_neg (Nat.lt_irrefl _)] at y
    exact itB_ne y (J.bs q hq) r) e
  kp := zkeep_one J.kp sb.extBut (.inr (.inr ⟨p, List.mem_of_getElem? hpi, rfl⟩))
  sz := by rw [sb.1]; exact J.sz
  done := fun l q hl hq => by
    rcases Nat.lt_or_eq_of_le (Nat.lt_succ_iff.mp hl) with c | c
    · obtain ⟨y, y1, y2⟩ := J.done l q c hq
      exact ⟨y, y1, (e1 l c).trans y2⟩
    · subst c
      rw [hpi] at hq
      cases hq
      exact ⟨x, hx, e2⟩
end
end M

namespace M
open PySem PySem.Spec PyProof.Rows L2
noncomputable def zMk (L0 : List (Bool × Addr)) (N : Nat) : List ZS := (L0.zipIdx N).map fun q => (q.1.1, q.2, q.1.2)
section
variable {prog : Program} {w : World} {A : Around} {E : Value → Shared → Prop} {s : Shared}
structure ZNew (L0 : List (Bool × Addr)) (h h' : Heap) : Prop where
  z : ZipAt h' (h.objs.size + L0.length + 2) (h.objs.size + L0.length) (h.objs.size + L0.length + 1)
  ti : TupAt h' (h.objs.size + L0.length) (refsOf (zMk L0 h.objs.size))
  to : TupAt h' (h.objs.size + L0.length + 1) (List.replicate L0.length .none)
  st : ZSt h' (zMk L0 h.objs.size) 0 0
  kp : ∀ c o, h.get? c = some o → h'.get? c = some o
  sz : h'.objs.size = h.objs.size + L0.length + 3
end
end M

namespace M
open PySem PySem.Spec PyProof.Rows L2
section
variable {prog : Program} {w : World} {A : Around} {E : Value → Shared → Prop} {s : Shared}
end
noncomputable def Itzn (K : PySem.W.Frag) (L0 : List (Bool × Addr)) : It :=
  ⟨fun j H => ∀ p ∈ L0, ∃ (vs : List V) (x : V), SqB K H p.1 p.2 vs ∧ vs[j]? = some x,
    fun j H v H2 => ∃ N xs, v = .ref N ∧ H N = none ∧ H2 = upd H N (.tup xs) ∧ xs.length = L0.length ∧ ∀ (l : Nat) (p : Bool × Addr), L0[l]? = some p → ∀ vs, SqB K H p.1 p.2 vs → vs[j]? = xs[l]?,
    fun j H => (∀ p ∈ L0, ∃ vs : List V, SqB K H p.1 p.2 vs) ∧ ∃ p ∈ L0, ∃ vs : List V, SqB K H p.1 p.2 vs ∧ vs.length ≤ j⟩
structure ZTn (L0 : List (Bool × Addr)) (N z TI TO : Addr) (j : Nat) (h : Heap) : Prop where
  z : ZipAt h z TI TO
  ti : TupAt h TI (refsOf (zMk L0 N))
  to : ∃ zs, zs.length = L0.length ∧ TupAt h TO zs
  st : ZSt h (zMk L0 N) j 0
noncomputable def zFp (L0 : List (Bool × Addr)) (N z TI TO : Addr) : List Addr := z :: TI :: TO :: (zMk L0 N).map fun p => p.2.1
theorem ZSt.cls {h : Heap} {L : List ZS} {j : Nat} (S : ZSt h L j 0) {p : ZS} (hp : p ∈ L) : ∃ o, h.get? p.2.1 = some o ∧ ∃ u, o.data = .fields u := by
  obtain ⟨l, hl⟩ := List.mem_iff_getElem?.mp hp
  obtain ⟨o, e, _, u⟩ := (S l p hl).cls
  exact ⟨o, e, u⟩
section
variable {X : Cx} {T : Tx} {W : WX} {a b : Expr} {ma mb : ME} {pos : Pos}
end
end M

namespace M
open PySem PySem.Spec PyProof.Rows L2
variable {X : Cx} {T : Tx} {W : WX} {a b : Expr} {ma mb : ME} {pos : Pos}
variable {av av' : Av} {r r' r2 : List Addr} {H H' H2 : Hp} {m m' : Mem}
end M

namespace M
open PySem PySem.Spec PyProof.Rows L2
section
variable {X : Cx} {pins : List (Addr × Obj)} {σ : L2.St} {H : Hp} {s : Shared} {A : Around} {E : Value → Shared → Prop} {L0 : List (Bool × Addr)} {N z TI TO : Addr} {j : Nat} {Q : Option Value → Shared → Prop}
end
end M

namespace M
open PySem PySem.Spec PyProof.Rows L2
noncomputable def ZMade (X : Cx) (pins : List (Addr × Obj)) (σ : L2.St) (R : List (Bool × Addr) → Hp → Prop) (v : Value) (s2 : Shared) : Prop :=
  ∃ (z TI TO N : Addr) (L0 : List (Bool × Addr)) (H1 : Hp), v = .ref z ∧ Inv X pins σ H1 s2 ∧ L0 ≠ [] ∧ L0.length ≤ 4 ∧ ZSep (zMk L0 N) z TI TO ∧ ZTn L0 N z TI TO 0 s2.heap ∧ (∀ c ∈ zFp L0 N z TI TO, FpOk X pins H1 c) ∧ R L0 H1
variable {X : Cx} {T : Tx} {W : WX} {a b : Expr} {ma mb : ME} {pos : Pos}
variable {av av' : Av} {r r' r2 : List Addr} {H H' H2 : Hp} {m m' : Mem}
noncomputable abbrev TZ := L2.St → Hp → (List (Bool × Addr) → Hp → Prop) → Prop
structure PZ (X : Cx) (e : Expr) (t : TZ) : Prop where
  run : ∀ (pins : List (Addr × Obj)) (s : Shared) (σ : L2.St) (H : Hp) (R : List (Bool × Addr) → Hp → Prop), Inv X pins σ H s → t σ H R → wpAny (model X.prog X.w) X.A (eval e X.env) (ZMade X pins σ R) X.xe s
noncomputable def KZ (K : PySem.W.Frag) (T : Tx) (av : Av) (r : List Addr) (H : Hp) (R : List (Bool × Addr) → Hp → Prop) (it : MI) (m' : Mem) : Prop := ∀ r' H' L0, Grow r H r' H' → RM T av r' H' m' → IOk T av r' H' it (Itzn K L0) → R L0 H'
noncomputable def tZ (K : PySem.W.Frag) (T : Tx) (W : WX) (mi : Env → Mem → Res MI) : TZ := fun σ H R => ∃ av r e m, RE T av r H e σ ∧ RM T av r H m ∧ okR T av r H (fun c d H' => W c d σ H') (KZ K T av r H R) (mi e m)
structure SZ (X : Cx) (T : Tx) (W : WX) (e : Expr) (mi : Env → Mem → Res MI) : Prop where pz : PZ X e (tZ X.K T W mi)
theorem PZ.imp {e : Expr} {t t' : TZ} (h : PZ X e t) (f : ∀ σ H R, t' σ H R → t σ H R) : PZ X e t' := ⟨fun pins s σ H R I q => h.run pins s σ H R I (f σ H R q)⟩
end M

namespace M
open PySem PySem.Spec PyProof.Rows L2
variable {X : Cx} {T : Tx} {W : WX} {av av' : Av} {r r' r2 : List Addr} {H H' H2 : Hp} {m m' : Mem}
end M

namespace M
open PySem PySem.Spec PyProof.Rows L2
variable {X : Cx} {T : Tx} {W : WX} {av av' : Av} {r r' r2 : List Addr} {H H' H2 : Hp} {m m' : Mem}
noncomputable def combNext (n : Nat) (c : List Nat) : Option (List Nat) :=
  match (List.range c.length).reverse.find? fun k => c.getD k 0 != k + n - c.length with
  | none => none
  | some k => some (c.take k ++ (List.range (c.length - k)).map (c.getD k 0 + 1 + ·))
noncomputable def combIdx (n k : Nat) : Nat → Option (List Nat)
  | 0 => if k > n then none else some (List.range k)
  | j + 1 => (combIdx n k j).bind (combNext n)
end M

namespace M
open PySem PySem.Spec PyProof.Rows L2
variable {X : Cx} {T : Tx} {W : WX} {a b c : Expr} {ma mb mc : ME} {mt mu : MT} {ms mv : MS} {pos : Pos} {st : Stmt} {rest sts : List Stmt}
variable {av av' : Av} {r r' r2 : List Addr} {H H' H2 : Hp} {m m' : Mem} {tg iter : Expr}
noncomputable def NoFrz (X : Cx) (d : Addr) : Prop := ∀ o' u', X.H_0 d ≠ some (.frz o' u')
noncomputable def lkR (X : Cx) (td : TE) : TE := fun σ H Q => td σ H fun x H1 => Q x H1 ∨ ∃ d u, x = .ref d ∧ H1 d = some u ∧ Mut (some u) ∧ ∀ o, NoFrz X d → Q x (upd H1 d (.frz o u))
noncomputable def iW (X : Cx) (Jk : Addr → Obj → List (L2.Key × V) → It) (td : TE) : TI := fun σ H R => lkR X td σ H fun x H1 => ∃ d o kvs, x = .ref d ∧ H1 d = some (.frz o (.dK kvs)) ∧ R (Jk d o kvs) H1
noncomputable abbrev IokW (T : Tx) (mi : List PV → List PV → MI) (Jk : Addr → Obj → List (L2.Key × V) → It) : Prop :=
  ∀ {av : Av} {r : List Addr} {H : Hp} {a : Addr} {o : Obj} {kvs : List (L2.Key × V)} {ws : List PV}, Out av r a → H a = some (.frz o (.dK kvs)) → RVs T av r H ws (kvs.map (·.2)) → IOk T av r H (mi (ksOf kvs) ws) (Jk a o kvs)
section
variable {scope : Scope} {own : List (Str × Nat)} {ts : List Nat} {mg : MG} {d : Expr} {ifs : List Expr} {mi : List PV → List PV → MI} {Jk : Addr → Obj → List (L2.Key × V) → It}
structure SWk (X : Cx) (T : Tx) (W : WX) (tg iter : Expr) (mi : List PV → List PV → MI) (mb : ME) : Prop where
  go : ∃ Jk, IokW T mi Jk ∧ PI X tg iter (iW X Jk (tE T W mb))
end
end M

namespace M
open PySem PySem.Spec PyProof.Rows L2
variable {X : Cx} {T : Tx} {W : WX} {a b c kx : Expr} {ma mb mc mk : ME} {mt mu : MT} {ms mv : MS} {pos : Pos} {st : Stmt} {rest sts : List Stmt}
variable {av av' : Av} {r r' r2 : List Addr} {H H' H2 : Hp} {m m' : Mem} {tg iter : Expr}
section
variable {scope : Scope} {own : List (Str × Nat)} {ts : List Nat} {mg : MG} {d : Expr} {ifs : List Expr} {mi : List PV → List PV → MI}
end
end M

namespace M
open PySem PySem.Spec PyProof.Rows L2
variable {X : Cx} {T : Tx} {W : WX} {a : Expr} {av : Av} {r : List Addr} {H : Hp} {m : Mem}
end M

namespace M
open PySem PySem.Spec PyProof.Rows L2
variable {X : Cx} {T : Tx} {W : WX} {av av' : Av} {r r' r2 : List Addr} {H H' H2 : Hp} {m m' : Mem}
theorem ints_find : ∀ {its : List Value} {ns : List Int}, IntsAre its ns → ∀ {i : Nat} {v : Value}, its[i]? = some v → ∃ n t, ns[i]? = some n ∧ v = .int n t
  | _, _, .nil, i, v, h => by simp at h
  | _, _, .cons n t r, 0, v, h => by
    simp only [List.getElem?_cons_zero, Option.some.injEq] at h
    exact ⟨n, t, rfl, h.symm⟩
  | _, _, .cons n t r, i + 1, v, h => by
    simp only [List.getElem?_cons_succ] at h ⊢
    exact ints_find r h
theorem truth_ints {prog : Program} {w : World} {A : Around} {ns : List Int} {its : List Value} (e : IntsAre its ns) :
    TruthOf prog w A (fun i v => its.toArray[i]? = some v) (fun i => ns.getD i 0 != 0) := fun i v s Q E hv hq => by
  have hv' : its[i]? = some v := by simpa using hv
  obtain ⟨n, t, e1, rfl⟩ := ints_find e hv'
  have hg : ns.getD i 0 = n := by rw [List.getD_eq_getElem?_getD, e1] <;> rfl
  have hq' : Q (ns.getD i 0 != 0) s := hq
  rw [hg] at hq'
  exact truthy_int hq'
theorem all_rangeI : ∀ ns : List Int, (List.range ns.length).all (fun i => ns.getD i 0 != 0) = ns.all (· != 0)
  | [] => rfl
  | n :: ns => by
    rw [List.length_cons, List.range_succ_eq_map, List.all_cons, List.all_map, List.all_cons, ← all_rangeI ns]
    all_goals rfl
theorem cr_allI (hc : X.calm = true) : CallR X (.builtin "all") (fun vs H Q => ∃ (a : Addr) (ns : List Int), vs = [V.ref a] ∧ SqL X.K H a (ns.map V.int) ∧ Q (.bl (ns.all (· != 0))) H) := by
  intro pins s σ H vs us Q I r h
  obtain ⟨a, bs, rfl, hs, q⟩ := h
  obtain ⟨its, rv, hl, _⟩ := I.list hs
  rw [Vals.ref1 r]
  have hb := rv.ints
  refine call_all_walk (iter_any hl.isList fun s₂ e2 st hne => ?_)
  subst e2
  refine ⟨_, _, _, _, _, _, _, rfl, Walks.list (A := X.A.in1) (I.ok.hd hc) _ a hne its.toArray, st, truth_ints hb, fun h' tk hk => ?_⟩
  refine ⟨.bl _, H, I.kept fun b o eo => hk b o (fun hmem => ?_) (Heap.get?_push_of_some _ eo), ?_, q⟩
  · rcases List.mem_cons.mp hmem with e1 | hmem
    · exact absurd (e1 ▸ Heap.lt_size eo) (Nat.lt_irrefl _)
    · cases hmem
  · show Value.bool _ = Value.bool _
    rw [← all_rangeI, List.size_toArray, hb.length]
noncomputable def cAllI : List PV → Mem → Option PV
  | [x], m => match lstOf x m with
    | some xs => match intsOf xs with
      | some ns => some (.bl (ns.all (· != 0)))
      | none => none
    | none => none
  | _, _ => none
theorem cm_allI (hc : X.calm = true) : ClM X T (.builtin "all") cAllI := by
  refine ⟨_, cr_allI hc, fun {av r H m xs z vs Q} rm rv e k => ?_⟩
  unfold cAllI at e
  split at e
  · split at e
    · rename_i ys hy
      split at e
      · rename_i ns hn
        cases e
        obtain ⟨v, rfl, h⟩ := rvs1 rv
        obtain ⟨a, vs, rfl, ha, hv⟩ := lstOf_ok rm h hy
        rw [intsOf_eq hn] at hv
        rw [rvs_ints hv] at ha
        exact ⟨a, ns, rfl, .inl ha, k r H _ .refl rm rv_bl⟩
      · cases e
    · cases e
  · cases e
end M

namespace M
open PySem PySem.Spec PyProof.Rows L2 PySem.W
variable {X : Cx} {T : Tx} {W : WX} {av av' : Av} {r r' r2 : List Addr} {H H' H2 : Hp} {m m' : Mem}
end M

namespace M
open PySem PySem.Spec PyProof.Rows L2
end M

namespace M
open PySem PySem.Spec PyProof.Rows L2
noncomputable def IsCb (h : Heap) (c P : Addr) (st : Int) (last : Value) (idx : List Nat) : Prop := h.get? c = some { cls := .type "itertools.combinations", dict := none, data := .fields ([Value.ref P, rawInt st, last] ++ idx.map fun (i : Nat) => rawInt i).toArray, slots := #[] }
section
variable {prog : Program} {w : World} {A : Around} {E : Value → Shared → Prop} {s : Shared}
end
end M

namespace M
open PySem PySem.Spec PyProof.Rows L2
section
variable {prog : Program} {w : World} {A : Around} {E : Value → Shared → Prop} {s : Shared} {c P : Addr} {st : Int} {last : Value} {idx : List Nat}
end
end M

namespace M
open PySem PySem.Spec PyProof.Rows L2
section
variable {prog : Program} {w : World} {A : Around} {E : Value → Shared → Prop} {s : Shared} {c P : Addr} {st : Int} {last : Value} {idx : List Nat}
end
structure CBn (its : List Value) (k : Nat) (c P : Addr) (j : Nat) (h : Heap) : Prop where
  pool : TupAt h P its
  st : ∃ st last idx, IsCb h c P st last idx ∧ match j with
    | 0 => st = (if k > its.length then 2 else 0) ∧ idx = List.range k
    | j + 1 => st = 1 ∧ combIdx its.length k j = some idx
variable {X : Cx} {T : Tx} {W : WX} {a b : Expr} {av av' : Av} {r r' r2 : List Addr} {H H' H2 : Hp} {m m' : Mem}
end M

namespace M
open PySem PySem.Spec PyProof.Rows L2
noncomputable def lamP (q : Str) (params : Arguments) (body : Expr) (scope : Scope) (f c : Addr) : Heap → Prop := fun h =>
  ∃ (od : Option Addr) (sl : Array (Option Value)) (pm ctv : Value), h.get? f = some (⟨.type "function", od, .func (PySem.W.kla_fn "<lambda>" q params body scope [] pm (.ref c) ctv), sl⟩ : Obj)
section
variable {X : Cx} {pins : List (Addr × Obj)} {σ : L2.St} {H : Hp} {s : Shared}
end
structure LOk (P : Program) (w : World) (K : PySem.W.Frag) (mg : Str → Option Value) (base : Heap) (CX : CXT) (k : Nat) (q : Str) (params : Arguments) (body : Expr) (scope : Scope) (sp : Sp) : Prop where
  run : ∀ (f c : Addr) (A : Around) (outer : List PySem.Env) (s : Shared) (H : Hp) (us : List Value) (vs : List V) (Q : VK) (E : XK), Room k A → Env0 P w K mg base A outer s H → H f = some (.ext (lamP q params body scope f c)) → H c = some (LamX.CodeO c q) →
    Vals vs us → sp vs H Q E → codeAny (model P w) A (.call (.ref f) ⟨us, []⟩) (CR CX outer P w H s Q E) s
theorem LOk.mono {P : Program} {w : World} {K : PySem.W.Frag} {mg : Str → Option Value} {base : Heap} {CX : CXT} {j k : Nat} {q : Str} {params : Arguments} {body : Expr} {scope : Scope} {sp : Sp} (o : LOk P w K mg base CX j q params body scope sp) (h : j ≤ k) : LOk P w K mg base CX k q params body scope sp :=
  ⟨fun f c A outer s H us vs Q E hr => o.run f c A outer s H us vs Q E (hr.mono h)⟩
section
variable {X : Cx} {T : Tx} {W : WX} {av : Av} {r : List Addr} {H : Hp} {m : Mem}
end
end M

namespace M
open PySem PySem.Spec PyProof.Rows L2
variable {X : Cx} {T : Tx} {W : WX} {av : Av} {r : List Addr} {H : Hp} {m : Mem}
end M

namespace M
open PySem PySem.Spec PyProof.Rows L2
variable {X : Cx} {T : Tx} {W : WX} {av : Av} {r : List Addr} {H : Hp} {m : Mem}
end M

namespace GQ
open PySem PySem.SeqAt
open AutoSeq1 (wpAny_loadPart')
open MeetsSeq MeetsSeq2 MeetsSeq3 SeqRoads2
section
variable {prog : Program} {w : World} {A : Around} {R : Result → Shared → Prop}
end
end GQ

namespace M
open PySem PySem.Spec PyProof.Rows L2
section
variable {X : Cx} {es : List Expr} {t : TA} {pos : Pos}
end
section
variable {X : Cx} {T : Tx} {W : WX} {a b c : Expr} {ma mb mc : ME} {pos : Pos}
end
section
variable {X : Cx} {pins : List (Addr × Obj)} {σ : L2.St} {H : Hp} {s : Shared} {C f : Addr} {fd : FuncData} {ps : List Str} {k : Nat} {sp : Sp}
variable {o e : Expr} {es : List Expr} {to : TE} {t : TA} {name : Str} {apos cpos : Pos} {id : String} {r : V → List V → Hp → VK → Prop}
end
section
variable {X : Cx} {T : Tx} {W : WX} {av : Av} {a b : Expr} {es : List Expr} {ma : ME} {mr : MA} {apos pos : Pos}
variable {f : Addr} {fd : FuncData} {ps : List Str} {k cl : Nat} {mf : MF}
end
end M

namespace M
open PySem PySem.Spec PyProof.Rows L2
open PySem.W (EachIs TotalLe sameRank sortLe sortVals keyToks alike alikeAll dataKind SortsAt sortLe_total sort_unique sort_each)
section
variable {α : Type}
noncomputable def leD (p q : PyData × α) : Bool := !PyProof.Rows.lexLt itemOrd (keyToks q.1) (keyToks p.1)
theorem leD_total : TotalLe (leD : PyData × α → PyData × α → Bool) := sortLe_total (listOrd itemOrd) false (fun p : PyData × α => keyToks p.1)
noncomputable def insD (p : PyData × α) : List (PyData × α) → List (PyData × α)
  | [] => [p]
  | q :: qs => if leD p q then p :: q :: qs else q :: insD p qs
noncomputable def isortD : List (PyData × α) → List (PyData × α)
  | [] => []
  | p :: l => insD p (isortD l)
theorem ins_mem {p x : PyData × α} : ∀ {l : List (PyData × α)}, x ∈ insD p l → x = p ∨ x ∈ l
  | [], h => by
    unfold insD at h
    exact .inl (by simpa using h)
  | q :: qs, h => by
    unfold insD at h
    split at h
    · rcases List.mem_cons.mp h with h | h
      · exact .inl h
      · exact .inr h
    · rcases List.mem_cons.mp h with h | h
      · exact .inr (h ▸ List.mem_cons_self)
      · exact (ins_mem h).imp id (List.mem_cons_of_mem _)
theorem ins_sorted {p : PyData × α} : ∀ {l : List (PyData × α)}, l.Pairwise (fun a b => leD a b = true) → (insD p l).Pairwise (fun a b => leD a b = true)
  | [], _ => by unfold insD; exact List.pairwise_singleton _ _
  | q :: qs, h => by
    have h1 := (List.pairwise_cons.mp h).1
    have h2 := (List.pairwise_cons.mp h).2
    unfold insD
    split
    · rename_i hp
      exact List.pairwise_cons.mpr ⟨fun x hx => by
        rcases List.mem_cons.mp hx with e | e
        · rw [e]; exact hp
        · exact leD_total.trans _ _ _ hp (h1 x e), h⟩
    · rename_i hp
      have hq : leD q p = true := (leD_total.total q p).elim id fun z => absurd z hp
      exact List.pairwise_cons.mpr ⟨fun x hx => by
        rcases ins_mem hx with e | e
        · rw [e]; exact hq
        · exact h1 x e, ins_sorted h2⟩
theorem ins_filter {p c : PyData × α} : ∀ {l : List (PyData × α)}, (insD p l).filter (sameRank leD c) = (p :: l).filter (sameRank leD c)
  | [] => rfl
  | q :: qs => by
    unfold insD
    split
    · rfl
    · rename_i hp
      have ih := ins_filter (p := p) (c := c) (l := qs)
      cases hq : sameRank leD c q with
      | false =>
        rw [List.filter_cons_of_neg (by rw [hq]; exact Bool.false_ne_true), ih]
        cases hc : sameRank leD c p with
        | false => rw [List.filter_cons_of_neg (by rw [hc]; exact Bool.false_ne_true), List.filter_cons_of_neg (by rw [hc]; exact Bool.false_ne_true), List.filter_cons_of_neg (by rw [hq]; exact Bool.false_ne_true)]
        | true => rw [List.filter_cons_of_pos hc, List.filter_cons_of_pos hc, List.filter_cons_of_neg (by rw [hq]; exact Bool.false_ne_true)]
      | true =>
        have hc : sameRank leD c p = false := by
          cases z : sameRank leD c p with
          | false => rfl
          | true =>
            unfold sameRank at hq z
            rw [Bool.and_eq_true] at hq z
            exact absurd (leD_total.trans p c q z.2 hq.1) hp
        rw [List.filter_cons_of_pos hq, ih, List.filter_cons_of_neg (by rw [hc]; exact Bool.false_ne_true), List.filter_cons_of_neg (by rw [hc]; exact Bool.false_ne_true), List.filter_cons_of_pos hq]
theorem isort_sorted : ∀ l : List (PyData × α), (isortD l).Pairwise (fun a b => leD a b = true)
  | [] => .nil
  | p :: l => ins_sorted (isort_sorted l)
theorem isort_filter {c : PyData × α} : ∀ l : List (PyData × α), (isortD l).filter (sameRank leD c) = l.filter (sameRank leD c)
  | [] => rfl
  | p :: l => by
    unfold isortD
    rw [ins_filter]
    have ih := isort_filter (c := c) l
    cases h : sameRank leD c p with
    | true => rw [List.filter_cons_of_pos h, List.filter_cons_of_pos h, ih]
    | false => rw [List.filter_cons_of_neg (by rw [h]; exact Bool.false_ne_true), List.filter_cons_of_neg (by rw [h]; exact Bool.false_ne_true), ih]
theorem isort_eq (l : List (PyData × α)) : isortD l = l.mergeSort leD := sort_unique leD_total (isort_sorted l) fun c => isort_filter l
end
section
variable {X : Cx} {pins : List (Addr × Obj)} {σ : L2.St} {H : Hp} {s : Shared}
noncomputable def rSortD (K : PySem.W.Frag) : List V → Hp → VK → Prop := fun vs H Q => ∃ (a : Addr) (xs : List V) (ds : List PyData), vs = [V.ref a] ∧ SqL K H a xs ∧ DpAll K H xs ds ∧ PySem.W.AllAlike ds ∧ PySem.W.Sortable ds ∧ (∀ d, d ∈ ds → d.depth ≤ 60) ∧
  ∀ p : Addr, H p = none → Q (.ref p) (upd H p (.lst (((ds.zip xs).mergeSort leD).map (·.2))))
theorem each_reads (I : Inv X pins σ H s) : ∀ {xs : List V} {ds : List PyData} {us : List Value}, DpAll X.K H xs ds → Vals xs us → EachIs (fun v d => ∃ as, Reads s.heap v d as) us ds
  | _, _, _, h, .nil => by cases h; exact .nil
  | _, _, _, h, .cons r t => by
    cases h with
    | cons h1 h2 => exact .cons (Dp.reads I _ _ _ h1 r) (each_reads I h2 t)
theorem each_rel : ∀ {xs : List V} {ds : List PyData} {us : List Value} {K : PySem.W.Frag}, DpAll K H xs ds → Vals xs us → EachIs (fun v (p : PyData × V) => RelV p.2 v) us (ds.zip xs)
  | _, _, _, _, h, .nil => by cases h; exact .nil
  | _, _, _, _, h, .cons r t => by
    cases h with
    | cons h1 h2 => exact .cons r (each_rel h2 t)
theorem each_vals : ∀ {zs : List (PyData × V)} {us : List Value}, EachIs (fun v (p : PyData × V) => RelV p.2 v) us zs → Vals (zs.map (·.2)) us
  | _, _, .nil => .nil
  | _, _, .cons h t => .cons h (each_vals t)
theorem each_key {h : Heap} {ds0 : List PyData} (hal : PySem.W.AllAlike ds0) : ∀ {xs : List V} {ds : List PyData} {us : List Value}, EachIs (fun v d => ∃ as, Reads h v d as) us ds → (∀ d, d ∈ ds → d ∈ ds0) → xs.length = ds.length → EachIs (fun v (p : PyData × V) => (dataKind h ds0).keyOf v = some (keyToks p.1)) us (ds.zip xs)
  | [], [], _, .nil, _, _ => .nil
  | x :: xs, d :: ds, _, .cons ⟨as, r⟩ t, hm, hl => .cons (PySem.W.dataKind_some hal (hm d List.mem_cons_self) r) (each_key hal t (fun d hd => hm d (List.mem_cons_of_mem _ hd)) (by simpa using hl))
  | [], _ :: _, _, _, _, hl => by cases hl
  | _ :: _, [], _, _, _, hl => by cases hl
theorem dpAll_len {K : PySem.W.Frag} : ∀ {xs : List V} {ds : List PyData}, DpAll K H xs ds → xs.length = ds.length
  | _, _, .nil => rfl
  | _, _, .cons _ h => by rw [List.length_cons, List.length_cons, dpAll_len h]
theorem cr_sortD (hu : X.A.units + 64 < cLine) : CallR X (.builtin "sorted") (rSortD X.K) := by
  intro pins s σ H vs us Q I r h
  obtain ⟨a, xs, ds, rfl, hs, hd, hal, hso, hdp, q⟩ := h
  obtain ⟨its, rv, hl, hz⟩ := I.list hs
  rw [Vals.ref1 r]
  have I2 : Inv X pins σ H { s with heap := PySem.W.sortingHeap (PySem.W.copyHeap s.heap its) (s.heap.objs.size + 1) its } := I.kept (t' := s.toks) fun b o e => PySem.W.sorting_copy_old e
  have er := each_reads I2 hd rv
  have S : SortsAt X.prog X.w X.A.in1.in1 { s with heap := PySem.W.sortingHeap (PySem.W.copyHeap s.heap its) (s.heap.objs.size + 1) its } (dataKind _ ds) its :=
    SortsAt.data er hal hso fun d hd' => by
      have := hdp d hd'
      show X.A.units + 1 + 1 + d.depth < cLine
      omega
  refine PySem.W.sorted_vals hl.isList S (by rw [← rv.length]; exact hz) ?_
  have out := PySem.W.sortVals_each (κ := dataKind (PySem.W.sortingHeap (PySem.W.copyHeap s.heap its) (s.heap.objs.size + 1) its) ds) (rev := false) (fun p : PyData × V => keyToks p.1) (each_rel hd rv) (each_key hal er (fun _ h => h) (dpAll_len hd))
  have vo := each_vals out
  obtain ⟨ep, he'⟩ := PyProof.Rows.sortedAll_at s.heap its (sortVals (dataKind _ ds) false its its).toArray
  have hlen : (((ds.zip xs).mergeSort leD).map (·.2)).length ≤ sizeLine := by
    rw [List.length_map, (List.mergeSort_perm _ _).length_eq, List.length_zip, ← dpAll_len hd, Nat.min_self]
    exact hz
  exact ⟨.ref _, upd H (s.heap.objs.size + 1) (.lst (((ds.zip xs).mergeSort leD).map (·.2))), I.laid (t' := s.toks) (fun _ _ => PyProof.Rows.sortedAll_old) (Nat.le_succ _) ⟨hlen, _, ep, vo, he'⟩, rfl, q _ (I.hok.fresh (Nat.le_succ _))⟩
end
section
variable {X : Cx} {T : Tx} {av : Av} {r : List Addr} {H : Hp} {m : Mem}
noncomputable def isIntD : PyData → Bool
  | .int _ => true
  | _ => false
noncomputable def flatI : PyData → Bool
  | .tuple xs => xs.all isIntD
  | _ => false
theorem isIntD_ok {x : PyData} (h : isIntD x = true) : ∃ i, x = .int i := by
  unfold isIntD at h
  split at h
  · exact ⟨_, rfl⟩
  · cases h
theorem flatI_ok {x : PyData} (h : flatI x = true) : ∃ xs, x = .tuple xs ∧ xs.all isIntD = true := by
  unfold flatI at h
  split at h
  · exact ⟨_, rfl, h⟩
  · cases h
theorem alikeAll_ints : ∀ xs ys : List PyData, xs.all isIntD = true → ys.all isIntD = true → alikeAll xs ys = true
  | [], _, _, _ => by unfold alikeAll; rfl
  | x :: xs, [], _, _ => by unfold alikeAll; rfl
  | x :: xs, y :: ys, h1, h2 => by
    rw [List.all_cons, Bool.and_eq_true] at h1 h2
    unfold alikeAll
    rw [alikeAll_ints xs ys h1.2 h2.2]
    obtain ⟨a, rfl⟩ := isIntD_ok h1.1
    obtain ⟨b, rfl⟩ := isIntD_ok h2.1
    unfold alike
    rfl
theorem alike_flat {x y : PyData} (h1 : flatI x = true) (h2 : flatI y = true) : alike x y = true := by
  obtain ⟨xs, rfl, k1⟩ := flatI_ok h1
  obtain ⟨ys, rfl, k2⟩ := flatI_ok h2
  unfold alike
  exact alikeAll_ints _ _ k1 k2
noncomputable def alikeOk (ds : List PyData) : Bool := ds.all isIntD || ds.all flatI || ds.all fun d => ds.all fun e => alike d e
theorem alikeOk_ok {ds : List PyData} (h : alikeOk ds = true) : PySem.W.AllAlike ds := fun d hd e he => by
  unfold alikeOk at h
  rw [Bool.or_eq_true, Bool.or_eq_true] at h
  rcases h with (h | h) | h
  · have h1 := List.all_eq_true.mp h d hd
    have h2 := List.all_eq_true.mp h e he
    obtain ⟨a, rfl⟩ := isIntD_ok h1
    obtain ⟨b, rfl⟩ := isIntD_ok h2
    unfold alike
    rfl
  · exact alike_flat (List.all_eq_true.mp h d hd) (List.all_eq_true.mp h e he)
  · exact List.all_eq_true.mp (List.all_eq_true.mp h d hd) e he
noncomputable def fullT : PyData → Bool
  | .tuple (_ :: _) => true
  | _ => false
noncomputable def noTup : PyData → Bool
  | .tuple _ => false
  | .none => false
  | _ => true
noncomputable def sortableOk (ds : List PyData) : Bool := ds.all fullT || ds.all noTup
theorem sortableOk_ok {ds : List PyData} (h : sortableOk ds = true) : PySem.W.Sortable ds := by
  unfold sortableOk at h
  rw [Bool.or_eq_true] at h
  rcases h with h | h
  · refine .inl fun d hd => ?_
    have := List.all_eq_true.mp h d hd
    unfold fullT at this
    split at this
    · exact ⟨_, _, rfl⟩
    · cases this
  · refine .inr fun d hd => ?_
    have := List.all_eq_true.mp h d hd
    refine ⟨fun z => ?_, fun xs z => ?_⟩
    · subst z; unfold noTup at this; cases this
    · subst z; unfold noTup at this; cases this
noncomputable def cSortD : List PV → Mem → Option (List PV)
  | [x], m => match lstOf x m with
    | some ys => match datAll m ys with
      | some ds => if alikeOk ds && sortableOk ds && ds.all (fun d => Nat.ble d.depth 60) then some ((isortD (ds.zip ys)).map (·.2)) else none
      | none => none
    | none => none
  | _, _ => none
theorem datAll_len {m : Mem} : ∀ {xs : List PV} {ds : List PyData}, datAll m xs = some ds → ds.length = xs.length
  | [], ds, h => by unfold datAll at h; cases h; rfl
  | x :: xs, ds, h => by
    unfold datAll at h
    split at h
    · rename_i d ds' h1 h2
      cases h
      rw [List.length_cons, List.length_cons, datAll_len h2]
    · cases h
theorem each_pv : ∀ {xs : List PV} {vs : List V} {ds : List PyData}, RVs T av r H xs vs → ds.length = xs.length → EachIs (fun (p : PyData × PV) (q : PyData × V) => p.1 = q.1 ∧ RV T av r H p.2 q.2) (ds.zip xs) (ds.zip vs)
  | [], vs, ds, h, hl => by
    have e : ds = [] := List.eq_nil_of_length_eq_zero hl
    subst e
    exact .nil
  | x :: xs, vs, [], h, hl => by cases hl
  | x :: xs, vs, d :: ds, h, hl => by
    unfold RVs at h
    obtain ⟨v, ws, rfl, h1, h2⟩ := h
    exact .cons ⟨rfl, h1⟩ (each_pv h2 (by simpa using hl))
theorem each_rvs : ∀ {ps : List (PyData × PV)} {qs : List (PyData × V)}, EachIs (fun (p : PyData × PV) (q : PyData × V) => p.1 = q.1 ∧ RV T av r H p.2 q.2) ps qs → RVs T av r H (ps.map (·.2)) (qs.map (·.2))
  | _, _, .nil => by show RVs T av r H [] []; unfold RVs; rfl
  | _, _, .cons h t => by
    show RVs T av r H (_ :: _) (_ :: _)
    unfold RVs
    exact ⟨_, _, rfl, h.2, each_rvs t⟩
theorem cf_sortD (hK : X.K = T.K) (hu : X.A.units + 64 < cLine) : ClF X T (.builtin "sorted") cSortD := by
  refine ⟨_, cr_sortD hu, fun {av r H m xs z vs Q} rm rv e k => ?_⟩
  unfold cSortD at e
  split at e
  · rename_i x m
    split at e
    · rename_i ys hy
      split at e
      · rename_i ds hds
        split at e
        · rename_i hk
          cases e
          simp only [Bool.and_eq_true] at hk
          obtain ⟨⟨h1, h2⟩, h3⟩ := hk
          obtain ⟨v, rfl, hv⟩ := rvs1 rv
          obtain ⟨p, ws, rfl, hp, hw⟩ := lstOf_ok rm hv hy
          refine ⟨p, ws, ds, rfl, .inl hp, datAll_ok hK rm ys hw hds, alikeOk_ok h1, sortableOk_ok h2, fun d hd => Nat.le_of_ble_eq_true (List.all_eq_true.mp h3 d hd), fun q hq => ?_⟩
          have ee := sort_each (r := leD) (s := leD) (each_pv hw (datAll_len hds)) fun p hp q hq => by
            have a1 := (each_pv hw (datAll_len hds)).zip p hp
            have a2 := (each_pv hw (datAll_len hds)).zip q hq
            unfold leD
            rw [a1.1, a2.1]
          rw [← isort_eq] at ee
          exact kf_new rm hq (each_rvs ee) k
        · cases e
      · cases e
    · cases e
  · cases e
end
end M

namespace M
open PySem PySem.Spec PyProof.Rows L2
section
variable {X : Cx} {pins : List (Addr × Obj)} {σ : L2.St} {H : Hp} {s : Shared} {p q : Addr} {k : NestedKey} {A : Around} {E : Value → Shared → Prop}
variable {o i : Expr} {td ty : TE}
end
section
variable {X : Cx} {T : Tx} {W : WX} {a b : Expr} {ma mb : ME} {pos : Pos} {av : Av} {r : List Addr} {H : Hp} {m : Mem}
end
end M

namespace M
open PySem PySem.Spec PyProof.Rows L2
variable {X : Cx} {T : Tx} {W : WX} {a b c : Expr} {ma mb mc : ME} {mt mu : MT} {ms mv : MS} {pos apos : Pos} {st : Stmt} {rest sts : List Stmt}
variable {av av' : Av} {r r' r2 : List Addr} {H H' H2 : Hp} {m m' : Mem} {tg iter : Expr}
noncomputable def strS (l : List Nat) : Str := ⟨l.toArray⟩
theorem strS_tl (x : Str) : strS x.cps.toList = x := by cases x; rfl
theorem rvs_strs : ∀ ys : List Str, RVs T av r H (ys.map PV.str) (ys.map V.str)
  | [] => by show RVs T av r H [] []; unfold RVs; rfl
  | n :: ns => by
    show RVs T av r H (PV.str n :: ns.map PV.str) (V.str n :: ns.map V.str)
    unfold RVs
    exact ⟨_, _, rfl, by unfold RV; rfl, rvs_strs ns⟩
noncomputable def sepOk (b : List Nat) : Bool := match b with
  | [] => false
  | _ => b.all (fun c => Nat.blt c 256)
noncomputable def splitL (a b : Str) : List Str := (TL.spl b.cps.toList 0 [] a.cps.toList).map strS
theorem splitL_eq {a b : Str} (h : sepOk b.cps.toList = true) : Txt.split a b = splitL a b := by
  have hb : b.cps.toList ≠ [] := by
    intro e
    rw [e] at h
    cases h
  have hk : b.cps.toList.all (· < 256) = true := by
    have e : b.cps.toList.all (fun c => Nat.blt c 256) = true := by
      unfold sepOk at h
      split at h
      · cases h
      · exact h
    rw [List.all_eq_true] at e ⊢
    intro x hx
    exact decide_eq_true (Nat.blt_eq.mp (e x hx))
  have q := _root_.SX.split_S (a := a.cps.toList) (b := b.cps.toList) hb hk
  rw [show _root_.SX.S a.cps.toList = a from strS_tl a, show _root_.SX.S b.cps.toList = b from strS_tl b] at q
  exact q
theorem sepOk_len {b : Str} (h : sepOk b.cps.toList = true) : (b.length == 0) = false := by
  rcases b with ⟨⟨_ | ⟨x, l⟩⟩⟩
  · cases h
  · rfl
noncomputable def mSplit (ma mb : ME) : MA := fun e m => (ma e m).bind fun x m1 => match x with
  | .str a => (mb e m1).bind fun y m2 => match y with
    | .str b => if sepOk b.cps.toList && szOk (a.cps.toList.length + 2) then .ok ((splitL a b).map .str) m2 else .bad
    | _ => .bad
  | _ => .bad
theorem sf_split (ha : SE X T W a ma) (hb : SE X T W b mb)
    (hs : starEach [b] X.env = [(false, eval b X.env)] := by rfl) (hbase : attributeBase a "split" X.env (eval a X.env) = eval a X.env := by rfl) (hline : (apos.endLine == pos.line) = true := by rfl) :
    SF X T W (.Call (.Attribute a "split" apos) [b] [] pos) (mSplit ma mb) :=
  ⟨PE.imp (pe_split ha.pe hb.pe hs hbase hline) fun σ H Q ⟨av, r, e, m, re, rm, h⟩ =>
    ⟨av, r, e, m, re, rm, okR_imp (okR_bind h) fun x m1 h r1 H1 v g1 rm1 rv => by
      split at h
      · rename_i sa
        rw [rv.str'] at *
        refine ⟨⟨sa, rfl⟩, av, r1, e, m1, re.grow g1, rm1, okR_grow g1 (fun y m2 h r2 H2 w g2 rm2 rw_ => ?_) (okR_bind h)⟩
        split at h
        · rename_i sb
          split at h
          · rename_i hj
            rw [Bool.and_eq_true] at hj
            refine ⟨sa, sb, rfl, by rw [rw_.str'], sepOk_len hj.1, szOk_le hj.2, ?_⟩
            intro q hq
            rw [splitL_eq hj.1]
            have g12 := g1.trans g2
            exact h r2 _ q _ (g12.trans (grow_upd hq)) (g12.none (soft hq)) (rm2.fresh hq) upd_same (rm2.away hq) ((rvs_strs _).away hq)
          · exact h.elim
        · exact h.elim
      · exact h.elim⟩⟩
noncomputable def strsOf : List PV → Option (List (List Nat))
  | [] => some []
  | .str s :: r => match strsOf r with
    | some l => some (s.cps.toList :: l)
    | none => none
  | _ :: _ => none
theorem strsOf_rvs : ∀ {xs : List PV} {ls : List (List Nat)} {vs : List V}, strsOf xs = some ls → RVs T av r H xs vs → vs = (ls.map strS).map V.str
  | [], ls, vs, h, q => by
    unfold strsOf at h
    cases h
    unfold RVs at q
    rw [q]; rfl
  | x :: xs, ls, vs, h, q => by
    cases x <;> try (unfold strsOf at h; cases h; done)
    rename_i s
    unfold strsOf at h
    split at h
    · rename_i l hl
      cases h
      unfold RVs at q
      obtain ⟨v, ws, rfl, q1, q2⟩ := q
      rw [strsOf_rvs hl q2, q1.str', List.map_cons, List.map_cons, strS_tl]
    · cases h
noncomputable def joinR (a : Str) (vs : List PV) (m : Mem) : Res PV := match strsOf vs with
  | some ls => if Nat.ble ((ls.map List.length).sum + ls.length * a.cps.toList.length) 16777216 then .ok (.str (strS (TL.joinL a.cps.toList ls))) m else .bad
  | none => .bad
noncomputable def mJoin (ma mb : ME) : ME := fun e m => (ma e m).bind fun x m1 => match x with
  | .str a => (mb e m1).bind fun y m2 => match y with
    | .lst vs => joinR a vs m2
    | _ => .bad
  | _ => .bad
theorem se_join (ha : SE X T W a ma) (hb : SE X T W b mb)
    (hs : starEach [b] X.env = [(false, eval b X.env)] := by rfl) (hbase : attributeBase a "join" X.env (eval a X.env) = eval a X.env := by rfl) (hline : (apos.endLine == pos.line) = true := by rfl) :
    SE X T W (.Call (.Attribute a "join" apos) [b] [] pos) (mJoin ma mb) :=
  ⟨PE.imp (pe_join ha.pe hb.pe hs hbase hline) fun σ H Q ⟨av, r, e, m, re, rm, h⟩ =>
    ⟨av, r, e, m, re, rm, okR_imp (okR_bind h) fun x m1 h r1 H1 v g1 rm1 rv => by
      split at h
      · rename_i sa
        have ev := rv.str'
        subst ev
        refine ⟨⟨sa, rfl⟩, av, r1, e, m1, re.grow g1, rm1, okR_grow g1 (fun y m2 h r2 H2 w g2 rm2 rw_ => ?_) (okR_bind h)⟩
        split at h
        · rename_i vs
          unfold joinR at h
          split at h
          · rename_i ls hls
            split at h
            · rename_i hz
              unfold RV at rw_
              obtain ⟨p, us, rfl, _, hl, rvs⟩ := rw_
              have eu := strsOf_rvs hls rvs
              subst eu
              refine ⟨sa, p, ls.map strS, rfl, rfl, .inl (.inl hl), ?_, ?_⟩
              · have z := Nat.le_of_ble_eq_true hz
                have l1 : (ls.map strS).map (·.length) = ls.map List.length := _root_.SX.lens ls
                rw [l1, List.length_map]
                exact z
              · have j : Txt.join sa (ls.map strS) = strS (TL.joinL sa.cps.toList ls) := by
                  have q := _root_.SX.join_S sa.cps.toList ls
                  rw [show _root_.SX.S sa.cps.toList = sa from strS_tl sa] at q
                  exact q
                rw [j]
                exact h r2 H2 _ (g1.trans g2) rm2 (by unfold RV; rfl)
            · exact h.elim
          · exact h.elim
        · exact h.elim
      · exact h.elim⟩⟩
noncomputable def cIntS : List PV → Mem → Option PV
  | [.str a], _ => if Nat.ble a.cps.toList.length 640 then (match PySem.intText? a with
    | some n => some (.int n)
    | none => none) else none
  | _, _ => none
theorem cm_intS : ClM X T (.type "int") cIntS := by
  refine ⟨_, call_int_str, fun {av r H m xs z vs Q} rm rv e k => ?_⟩
  unfold cIntS at e
  split at e
  · rename_i _ a
    split at e
    · rename_i hz
      split at e
      · rename_i n hn
        cases e
        obtain ⟨v, rfl, h⟩ := rvs1 rv
        exact ⟨a, n, by rw [h.str'], hn, Nat.le_of_ble_eq_true hz, k r H _ .refl rm rv_int⟩
      · cases e
    · cases e
  · cases e
theorem foldl_repN (its : List Nat) : ∀ (k : Nat) (acc : List Nat), List.foldl (fun x1 x2 => x1 ++ x2) acc.toArray (List.replicate k its.toArray) = (acc ++ (List.replicate k its).flatten).toArray
  | 0, acc => by simp
  | k + 1, acc => by
    have e : acc.toArray ++ its.toArray = (acc ++ its).toArray := by simp
    have e2 : (acc ++ its) ++ (List.replicate k its).flatten = acc ++ (List.replicate (k + 1) its).flatten := by
      rw [List.replicate_succ, List.flatten_cons, List.append_assoc]
    rw [List.replicate_succ, List.foldl_cons, e, foldl_repN its k (acc ++ its), e2]
noncomputable def rRepS : R2 := fun x y H Q => ∃ (a : Str) (k : Int), x = .str a ∧ y = .int k ∧ a.cps.toList.isEmpty = false ∧ 2 ≤ k ∧ k.toNat * a.cps.toList.length ≤ 1000000 ∧ Q (.str (strS (List.replicate k.toNat a.cps.toList).flatten)) H
theorem op_repS : OpR X (binaryOp .Mult) rRepS := by
  intro pins s σ H x y v u Q I rx ry h
  obtain ⟨a, k, rfl, rfl, hne, h2, hz, q⟩ := h
  obtain ⟨t, rfl⟩ := rx
  obtain ⟨t2, rfl⟩ := ry
  have hl : a.length = a.cps.toList.length := (Array.length_toList).symm
  have hp : 0 < a.cps.toList.length := by
    cases e : a.cps.toList with
    | nil => rw [e] at hne; cases hne
    | cons x l => simp
  have hk : k.toNat ≤ 1000000 := Nat.le_trans (Nat.le_mul_of_pos_right _ hp) hz
  have hk2 : k ≤ 1000000 := by omega
  have hlen : a.cps.toList.length ≤ 1000000 := by
    have : 1 * a.cps.toList.length ≤ k.toNat * a.cps.toList.length := Nat.mul_le_mul_right _ (by omega)
    omega
  refine PySem.P.mul_str (t := t) (u := t2) ?_ (fun _ _ => ?_) (fun _ _ => ?_) ?_
  · rw [decide_eq_false (by omega), decide_eq_false (by omega)]; rfl
  · rw [hl]
    have e1 : (1000000 : Int) ≤ (2 ^ 63 - 1) / k := by
      rw [Int.le_ediv_iff_mul_le (by omega)]
      have : (1000000 : Int) * k ≤ 1000000 * 1000000 := Int.mul_le_mul_of_nonneg_left hk2 (by decide)
      exact Int.le_trans this (by decide)
    omega
  · rw [hl]
    refine decide_eq_false (Nat.not_lt.mpr ?_)
    rw [Nat.mul_comm]
    exact Nat.le_trans hz (by decide)
  · have n1 : ¬ k < 1 := by omega
    have n2 : ¬ (k == 1 || a.length == 0) = true := by
      rw [Bool.or_eq_true, not_or]
      refine ⟨fun e => ?_, fun e => ?_⟩
      · have := eq_of_beq e; omega
      · have := eq_of_beq e; omega
    rw [if_neg n1, if_neg n2]
    have e : (⟨(List.replicate k.toNat a.cps).foldl (· ++ ·) #[]⟩ : Str) = strS (List.replicate k.toNat a.cps.toList).flatten := by
      have q1 := foldl_repN a.cps.toList k.toNat []
      rw [List.nil_append] at q1
      unfold strS
      rw [← q1]
    rw [e]
    refine ⟨?_, .str _, H, I.tok _, ⟨_, rfl⟩, q⟩
    show (List.replicate k.toNat a.cps.toList).flatten.toArray.size ≤ sizeLine
    rw [List.size_toArray, List.length_flatten, List.map_replicate, List.sum_replicate_nat]
    exact Nat.le_trans hz (by decide)
noncomputable def fRepS : PV → PV → Mem → Option PV := fun x y _ => match x, y with
  | .str a, .int k => if !a.cps.toList.isEmpty && (decide (2 ≤ k) && Nat.ble (k.toNat * a.cps.toList.length) 1000000) then some (.str (strS (List.replicate k.toNat a.cps.toList).flatten)) else none
  | _, _ => none
theorem om_repS : OpM X T (binaryOp .Mult) fRepS := by
  refine ⟨_, op_repS, fun {av r H m x y z v w Q} rm rv rw_ e k => ?_⟩
  unfold fRepS at e
  split at e
  · rename_i a n
    split at e
    · rename_i hc
      cases e
      rw [Bool.and_eq_true, Bool.and_eq_true, decide_eq_true_eq, Bool.not_eq_true'] at hc
      exact ⟨a, n, rv.str', rw_.int', hc.1, hc.2.1, Nat.le_of_ble_eq_true hc.2.2, k r H _ .refl rm (by unfold RV; rfl)⟩
    · cases e
  · cases e
section
variable {E : XK} {k n : Nat} {f : Addr} {fd : FuncData} {ps : List Str} {mf : MF} {x : Str} {p : Pos}
theorem pe_callG0 {CX : CXT} {sp : Sp} (F : FnG X.prog X.w X.K X.mg X.base CX k f fd ps sp) (gd : X.A.guards = some []) (hr : Room k X.A) (hg : Gl X x) (hm : X.mg x = some (.ref f)) (hk : PySem.W.keepIn X.K (.ref f) = true) (hb : Binds X.K fd ps []) (hx : Passes CX X E)
    (hdb : (x == ("__debug__" : Str)) = false := by decide) : PE X (.Call (.Name x p) [] [] pos) (fun _ H Q => sp [] H Q E) := by
  refine ⟨fun pins s σ H Q I h => ?_⟩
  refine wpAny_Call_Name_kw (ld_glob I hg hm ?_ hdb)
  exact PySem.W.callWith_K0 I.kIn hk (run_fg (us := []) F gd hr hb hx I .nil h)
theorem se_callGP0 (F : FnG X.prog X.w X.K X.mg X.base (L2.CX X.prog X.w) k f fd ps (spM T n mf)) (gd : X.A.guards = some []) (hr : Room k X.A) (hg : Gl X x) (hm : X.mg x = some (.ref f)) (hk : PySem.W.keepIn X.K (.ref f) = true) (hb : Binds X.K fd ps []) (tk : Takes X (WN E))
    (hdb : (x == ("__debug__" : Str)) = false := by decide) : SE X T (WN E) (.Call (.Name x p) [] [] pos) (mCallP n mf mNil) :=
  ⟨PE.imp (pe_callG0 F gd hr hg hm hk hb (passes_call tk (fun _ _ _ _ h => h)) hdb) fun σ H Q ⟨av, r, e, m, re, rm, h⟩ => sp_callP rm (by unfold RVs; rfl) h⟩
end
end M

namespace M
open PySem PySem.Spec PyProof.Rows L2
variable {X : Cx} {T : Tx} {W : WX} {a b c : Expr} {ma mb mc : ME} {mt mu : MT} {ms mv : MS} {pos apos : Pos} {st : Stmt} {rest sts : List Stmt}
variable {av av' : Av} {r r' r2 : List Addr} {H H' H2 : Hp} {m m' : Mem} {tg iter : Expr}
noncomputable def sStr : PV → Option Int → Option Int → Mem → Option PV := fun x lo hi _ => match x with
  | .str z => if szOk z.length then some (.str (cutS z lo hi)) else none
  | _ => none
theorem sm_str : SlM X T sStr := by
  refine ⟨_, sl_str, fun {av r H m x z lo hi v Q} rm rv e k => ?_⟩
  unfold sStr at e
  split at e
  · rename_i s
    split at e
    · rename_i hz
      cases e
      exact ⟨s, rv.str', szOk_le hz, k r H _ .refl rm (by unfold RV; rfl)⟩
    · cases e
  · cases e
noncomputable def signs (x : Str) : List PV := x.cps.toList.map fun c => .str ⟨#[c]⟩
noncomputable def mIS (ma : ME) : Env → Mem → Res MI := fun e m => (ma e m).bind fun v m1 => match v with
  | .str x => .ok (valsI (signs x)) m1
  | _ => .bad
theorem iok_str (x : Str) : IOk T av r H (valsI (signs x)) (Its x) := by
  intro av' r' H' m' i hw g rm
  show match valsI (signs x) m' i with
    | none => True
    | some none => _
    | some (some x) => _
  unfold valsI signs
  rw [List.getElem?_map]
  cases q : x.cps.toList[i]? with
  | none =>
    show x.cps.size ≤ i
    rw [← Array.length_toList]
    exact List.getElem?_eq_none_iff.mp q
  | some c =>
    have hc : x.cps[i]? = some c := by rw [← Array.getElem?_toList]; exact q
    have hi : i < x.cps.size := by
      rcases Nat.lt_or_ge i x.cps.size with h | h
      · exact h
      · rw [Array.getElem?_eq_none h] at hc; cases hc
    refine ⟨hi, fun v H2 y => ?_⟩
    obtain ⟨rfl, c', hc', rfl⟩ := y
    rw [hc] at hc'
    cases hc'
    exact ⟨r', .refl, rm, by unfold RV; rfl⟩
theorem si_str (ha : SE X T W a ma) : SI X T W tg a (mIS ma) :=
  ⟨PI.imp (pi_str ha.pe) fun σ H R ⟨av, r, e, m, re, rm, h⟩ =>
    ⟨av, r, e, m, re, rm, okR_imp (okR_bind h) fun x m1 h r1 H1 v g1 rm1 rv => by
      split at h
      · rename_i s
        exact ⟨s, rv.str', h r1 H1 _ g1 rm1 (iok_str s)⟩
      · exact h.elim⟩⟩
noncomputable def fInS : PV → PV → Mem → Option PV := fun x y _ => match x, y with
  | .str a, .str z => match a.cps.toList with
    | [c] => some (.bl (decide (c ∈ z.cps.toList)))
    | _ => none
  | _, _ => none
theorem om_inS : OpM X T (compareOp .In) fInS := by
  refine ⟨_, op_in_sign, fun {av r H m x y z v w Q} rm rv rw_ e k => ?_⟩
  unfold fInS at e
  split at e
  · rename_i a s
    split at e
    · rename_i c hc
      cases e
      have ha : a = ⟨#[c]⟩ := by
        rw [← strS_tl a, hc]
        rfl
      exact ⟨c, s, by rw [rv.str', ha], rw_.str', k r H _ .refl rm rv_bl⟩
    · cases e
  · cases e
end M

namespace G
open PySem PySem.Spec PyProof.Rows L2 M
noncomputable def topS (i : Nat) : Stmt := PySem.Challenge.pw_fivealike_k91_errors_of_texts.main.body.getD i (.Pass ⟨0, 0, 0, 0⟩)
noncomputable def iTab : List (Nat × List Nat) := [(0, [1, 2]), (1, [1]), (2, [4]), (3, [5]), (4, [6]), (5, [3]), (12, [15])]
noncomputable def iOwn : List Nat := [15]
noncomputable abbrev isF : Nat → Nat → Option Bool := isTab iOwn iTab
noncomputable def cNm : Nat → List Str
  | 6 => []
  | 0 => []
  | 1 => []
  | 2 => []
  | 3 => ["given"]
  | 4 => ["at"]
  | 5 => ["colours", "ties", "_near", "degrees"]
  | _ => []
noncomputable def metL : List Hd := [(0, none, (mRet (mC (.str "web")))),
  (2, none, (mRet (mC (.str "sentence")))),
  (1, none, (mRet (mC (.str "recipe")))),
  (3, some 1, (mRet (mBin fAdd (mC (.str "number ")) (mCl fReprD (mCons (mExF 3 0 (mVar 1)) mNil))))),
  (4, some 1, (mRet (mBin fAdd (mC (.str "line ")) (mCl fReprD (mCons (mExF 4 0 (mVar 1)) mNil)))))]
noncomputable def metF : MS := (mRet (mC (.str "fine")))
noncomputable abbrev s_d9 : Stmt := topS 9
theorem sc_d9 : FnScope ["value", "low", "high"] ["value", "low", "high"] (defScope s_d9) := ⟨rfl, rfl, rfl, by decide +kernel, rfl, by decide +kernel, by decide +kernel⟩
noncomputable def m_d9 : MS := (mRet (mAndV (mCl (cTyq iOwn 2 false) (mCons (mVar 0) mNil)) (mChain fLeI fLeI (mVar 1) (mVar 0) (mVar 2))))
noncomputable abbrev s_d10 : Stmt := topS 10
theorem sc_d10 : FnScope ["value", "low", "high", "member"] ["value", "low", "high"] (defScope s_d10) := ⟨rfl, rfl, rfl, by decide +kernel, rfl, by decide +kernel, by decide +kernel⟩
noncomputable def m_d10 : MS := (mSeq (mIfS (mNotT (mTb (mCl (cIsi isF) (mCons (mVar 0) (mCons (mC (.glo 2)) mNil)))))
  (mRet (mC (.bl false)))
  mPass)
  (mSeq (mFor (mPick (mPick (mIT (mVar 0)) (mIL (mVar 0))) (mIS (mVar 0))) (gN 3)
  (mIfS (mOrT (mTb (mCl (cTyq iOwn 2 true) (mCons (mVar 3) mNil))) (mNotT (mTb (mChain fLeI fLeI (mVar 1) (mVar 3) (mVar 2)))))
  (mRet (mC (.bl false)))
  mPass))
  (mRet (mC (.bl true)))))
noncomputable abbrev s_c19m3 : Stmt := inClass (topS 19) 3
theorem sc_c19m3 : FnScope ["self"] ["self"] (defScope s_c19m3) := ⟨rfl, rfl, rfl, by decide +kernel, rfl, by decide +kernel, by decide +kernel⟩
noncomputable def m_c19m3 : MS := (mRet (mCl (orC cLen cLenS) (mCons (mFld 5 0 (mVar 0)) mNil)))
noncomputable abbrev s_d11 : Stmt := topS 11
theorem sc_d11 : FnScope ["members", "at"] ["members"] (defScope s_d11) := ⟨rfl, rfl, rfl, by decide +kernel, rfl, by decide +kernel, by decide +kernel⟩
noncomputable def m_d11 : MS := (mSeq (mFor (mIR2 (mCons (mC (.int 1)) (mCons (mCl (orC (orC cLen (cLenI 5 (mFn 1 m_c19m3))) cLenS) (mCons (mVar 0) mNil)) mNil))) (gN 1)
  (mIfS (mNotT (mTb (mBin (orF fLtI fLtT) (mPick (mPick (mBin fIx (mVar 0) (mBin fSubI (mVar 1) (mC (.int 1)))) (mGet (mVar 0) (mBin fSubI (mVar 1) (mC (.int 1))))) (mBin fIxS (mVar 0) (mBin fSubI (mVar 1) (mC (.int 1))))) (mPick (mPick (mBin fIx (mVar 0) (mVar 1)) (mGet (mVar 0) (mVar 1))) (mBin fIxS (mVar 0) (mVar 1))))))
  (mRet (mC (.bl false)))
  mPass))
  (mRet (mC (.bl true))))
noncomputable abbrev s_d16 : Stmt := topS 16
theorem sc_d16 : FnScope ["value"] ["value"] (defScope s_d16) := ⟨rfl, rfl, rfl, by decide +kernel, rfl, by decide +kernel, by decide +kernel⟩
noncomputable def m_d16 : MS := (mRet (mCallP 3 (mFn 4 m_d10) (mCons (mVar 0) (mCons (mC (.int (-1))) (mCons (mC (.int (9))) mNil)))))
noncomputable abbrev s_d17 : Stmt := topS 17
theorem sc_d17 : FnScope ["value", "many", "tie"] ["value", "many"] (defScope s_d17) := ⟨rfl, rfl, rfl, by decide +kernel, rfl, by decide +kernel, by decide +kernel⟩
noncomputable def m_d17 : MS := (mSeq (mIfS (mNotT (mTb (mCl (cIsi isF) (mCons (mVar 0) (mCons (mC (.glo 2)) mNil)))))
  (mRet (mC (.bl false)))
  mPass)
  (mSeq (mFor (mPick (mPick (mIT (mVar 0)) (mIL (mVar 0))) (mIS (mVar 0))) (gN 2)
  (mIfS (mOrT (mNotT (mTb (mCallP 3 (mFn 4 m_d10) (mCons (mVar 2) (mCons (mC (.int 0)) (mCons (mBin fSubI (mVar 1) (mC (.int 1))) mNil)))))) (mOrT (mTb (mBin fNeD (mCl (orC (orC cLen (cLenI 5 (mFn 1 m_c19m3))) cLenS) (mCons (mVar 2) mNil)) (mC (.int 2)))) (mTb (mBin fGeI (mPick (mPick (mBin fIx (mVar 2) (mC (.int 0))) (mGet (mVar 2) (mC (.int 0)))) (mBin fIxS (mVar 2) (mC (.int 0)))) (mPick (mPick (mBin fIx (mVar 2) (mC (.int 1))) (mGet (mVar 2) (mC (.int 1)))) (mBin fIxS (mVar 2) (mC (.int 1))))))))
  (mRet (mC (.bl false)))
  mPass))
  (mRet (mCallP 1 (mFn 2 m_d11) (mCons (mVar 0) mNil)))))
noncomputable abbrev s_d18 : Stmt := topS 18
theorem sc_d18 : FnScope ["many", "ties", "near", "here", "there", "_", "points"] ["many", "ties"] (defScope s_d18) := ⟨rfl, rfl, rfl, by decide +kernel, rfl, by decide +kernel, by decide +kernel⟩
noncomputable def m_d18 : MS := (mSeq (mSet 2 (mL (mLc (mIR1 (mCons (mVar 0) mNil)) (gN 5) mYes (mN (mLstF mNil)) [5])))
  (mSeq (mFor (mPick (mPick (mIT (mVar 1)) (mIL (mVar 1))) (mIS (mVar 1))) (gTupM 2 (gsCons (gN 3) (gsCons (gN 4) gsNil)))
  (mSeq (mExpr (mMt qAppend isLst (mPick (mPick (mBin fIx (mVar 2) (mVar 3)) (mGet (mVar 2) (mVar 3))) (mBin fIxS (mVar 2) (mVar 3))) (mCons (mVar 4) mNil)))
  (mExpr (mMt qAppend isLst (mPick (mPick (mBin fIx (mVar 2) (mVar 4)) (mGet (mVar 2) (mVar 4))) (mBin fIxS (mVar 2) (mVar 4))) (mCons (mVar 3) mNil)))))
  (mRet (mCl cTuple (mCons (mL (mLc (mPick (mPick (mIT (mVar 2)) (mIL (mVar 2))) (mIS (mVar 2))) (gN 6) mYes (mCl cTuple (mCons (mL (mCl (orF2 (orF2 (orF2 cSortI cSortDI) cSortT) cSortD) (mCons (mVar 6) mNil))) mNil)) [6])) mNil)))))
noncomputable abbrev s_d20 : Stmt := topS 20
theorem sc_d20 : FnScope ["web"] ["web"] (defScope s_d20) := ⟨rfl, rfl, rfl, by decide +kernel, rfl, by decide +kernel, by decide +kernel⟩
noncomputable def m_d20 : MS := (mIfS (mNotT (mTb (mCl (cIsi isF) (mCons (mVar 0) (mCons (mC (.glo 12)) mNil)))))
  (mRaise 0)
  mPass)
noncomputable abbrev s_d21 : Stmt := topS 21
theorem sc_d21 : FnScope ["web", "point"] ["web", "point"] (defScope s_d21) := ⟨rfl, rfl, rfl, by decide +kernel, rfl, by decide +kernel, by decide +kernel⟩
noncomputable def m_d21 : MS := (mIfS (mNotT (mTb (mCallP 3 (mFn 3 m_d9) (mCons (mVar 1) (mCons (mC (.int 0)) (mCons (mBin fSubI (mCl (orC (orC cLen (cLenI 5 (mFn 1 m_c19m3))) cLenS) (mCons (mVar 0) mNil)) (mC (.int 1))) mNil))))))
  (mRaise1 3 (mVar 1))
  mPass)
noncomputable abbrev s_d24 : Stmt := topS 24
theorem sc_d24 : FnScope ["k"] ["k"] (defScope s_d24) := ⟨rfl, rfl, rfl, by decide +kernel, rfl, by decide +kernel, by decide +kernel⟩
noncomputable def m_d24 : MS := (mIfS (mNotT (mTb (mCallP 3 (mFn 3 m_d9) (mCons (mVar 0) (mCons (mC (.int 1)) (mCons (mC (.int (3))) mNil))))))
  (mRaise1 3 (mVar 0))
  mPass)
noncomputable abbrev s_d31 : Stmt := topS 31
theorem sc_d31 : FnScope ["low", "high", "k"] ["low", "high", "k"] (defScope s_d31) := ⟨rfl, rfl, rfl, by decide +kernel, rfl, by decide +kernel, by decide +kernel⟩
noncomputable def m_d31 : MS := (mSeq (mIfS (mAndT (mTb (mCl (cTyq iOwn 2 false) (mCons (mVar 0) mNil))) (mAndT (mTb (mCl (cTyq iOwn 2 false) (mCons (mVar 1) mNil))) (mTb (mChain3 fLeI fLtI fLeI (mC (.int 0)) (mVar 0) (mVar 1) (mVar 2)))))
  (mRet (mBin fOrI (mBin fShlI (mC (.int 1)) (mVar 0)) (mBin fShlI (mC (.int 1)) (mVar 1))))
  mPass)
  (mRet (mC .non)))
noncomputable abbrev s_d32 : Stmt := topS 32
theorem sc_d32 : FnScope ["k", "line"] ["k", "line"] (defScope s_d32) := ⟨rfl, rfl, rfl, by decide +kernel, rfl, by decide +kernel, by decide +kernel⟩
noncomputable def m_d32 : MS := (mSeq (mIfS (mOrT (mNotT (mTb (mCallP 3 (mFn 3 m_d9) (mCons (mPick (mPick (mBin fIx (mVar 1) (mC (.int 1))) (mGet (mVar 1) (mC (.int 1)))) (mBin fIxS (mVar 1) (mC (.int 1)))) (mCons (mC (.int 0)) (mCons (mVar 0) mNil)))))) (mNotT (mTb (mCallP 3 (mFn 3 m_d9) (mCons (mPick (mPick (mBin fIx (mVar 1) (mC (.int 2))) (mGet (mVar 1) (mC (.int 2)))) (mBin fIxS (mVar 1) (mC (.int 2)))) (mCons (mC (.int (-1))) (mCons (mC (.int (9))) mNil)))))))
  (mRet (mC .non))
  mPass)
  (mRet (mBin fShlI (mC (.int 1)) (mPick (mPick (mBin fIx (mVar 1) (mC (.int 1))) (mGet (mVar 1) (mC (.int 1)))) (mBin fIxS (mVar 1) (mC (.int 1)))))))
noncomputable abbrev s_d33 : Stmt := topS 33
theorem sc_d33 : FnScope ["within", "ahead", "many", "found", "at"] ["within", "ahead"] (defScope s_d33) := ⟨rfl, rfl, rfl, by decide +kernel, rfl, by decide +kernel, by decide +kernel⟩
noncomputable def m_d33 : MS := (mSeq (mIfS (mOrT (mNotT (mTb (mCl (cIsi isF) (mCons (mVar 0) (mCons (mC (.glo 2)) mNil))))) (mTb (mBin fGtI (mCl (orC (orC cLen (cLenI 5 (mFn 1 m_c19m3))) cLenS) (mCons (mVar 0) mNil)) (mC (.int (40))))))
  (mRet (mC .non))
  mPass)
  (mSeq (mSet 2 (mCl (orC (orC cLen (cLenI 5 (mFn 1 m_c19m3))) cLenS) (mCons (mVar 1) mNil)))
  (mSeq (mSet 3 (mC (.int 0)))
  (mSeq (mFor (mPick (mPick (mIT (mVar 0)) (mIL (mVar 0))) (mIS (mVar 0))) (gN 4)
  (mSeq (mIfS (mOrT (mTb (mCl (cTyq iOwn 2 true) (mCons (mVar 4) mNil))) (mNotT (mTb (mChain fLeI fLtI (mC (.int 0)) (mVar 4) (mVar 2)))))
  (mRet (mC .non))
  mPass)
  (mSet 3 (mBin fOrI (mVar 3) (mPick (mPick (mBin fIx (mVar 1) (mVar 4)) (mGet (mVar 1) (mVar 4))) (mBin fIxS (mVar 1) (mVar 4)))))))
  (mRet (mVar 3))))))
noncomputable abbrev s_d34 : Stmt := topS 34
theorem sc_d34 : FnScope ["k", "line", "ahead", "found"] ["k", "line", "ahead"] (defScope s_d34) := ⟨rfl, rfl, rfl, by decide +kernel, rfl, by decide +kernel, by decide +kernel⟩
noncomputable def m_d34 : MS := (mSeq (mIfS (mOrT (mNotT (mTb (mCallP 3 (mFn 3 m_d9) (mCons (mPick (mPick (mBin fIx (mVar 1) (mC (.int 1))) (mGet (mVar 1) (mC (.int 1)))) (mBin fIxS (mVar 1) (mC (.int 1)))) (mCons (mC (.int 1)) (mCons (mC (.int (99))) mNil)))))) (mNotT (mTb (mCallP 3 (mFn 3 m_d9) (mCons (mPick (mPick (mBin fIx (mVar 1) (mC (.int 2))) (mGet (mVar 1) (mC (.int 2)))) (mBin fIxS (mVar 1) (mC (.int 2)))) (mCons (mC (.int 0)) (mCons (mVar 0) mNil)))))))
  (mRet (mC .non))
  mPass)
  (mSeq (mSet 3 (mCall 2 (mFn 5 m_d33) (mCons (mPick (mPick (mSl sTup (mVar 1) (mSoP (mC (.int 3))) mNoP) (mSl sStr (mVar 1) (mSoP (mC (.int 3))) mNoP)) (mL (mSl sLst (mVar 1) (mSoP (mC (.int 3))) mNoP))) (mCons (mVar 2) mNil))))
  (mRet (mIf (mTb (mBin (fIsN false) (mVar 3) (mC .non))) (mC .non) (mBin fAndI (mVar 3) (mUn fInv (mBin fShlI (mC (.int 1)) (mPick (mPick (mBin fIx (mVar 1) (mC (.int 2))) (mGet (mVar 1) (mC (.int 2)))) (mBin fIxS (mVar 1) (mC (.int 2)))))))))))
noncomputable abbrev s_d35 : Stmt := topS 35
theorem sc_d35 : FnScope ["k", "line", "ahead", "word"] ["k", "line", "ahead"] (defScope s_d35) := ⟨rfl, rfl, rfl, by decide +kernel, rfl, by decide +kernel, by decide +kernel⟩
noncomputable def m_d35 : MS := (mSeq (mIfS (mOrT (mNotT (mTb (mCl (cIsi isF) (mCons (mVar 1) (mCons (mC (.glo 2)) mNil))))) (mOrT (mTb (mBin fEqD (mCl (orC (orC cLen (cLenI 5 (mFn 1 m_c19m3))) cLenS) (mCons (mVar 1) mNil)) (mC (.int 0)))) (mNotT (mTb (mCl (cIsi isF) (mCons (mPick (mPick (mBin fIx (mVar 1) (mC (.int 0))) (mGet (mVar 1) (mC (.int 0)))) (mBin fIxS (mVar 1) (mC (.int 0)))) (mCons (mC (.glo 5)) mNil)))))))
  (mRet (mC .non))
  mPass)
  (mSeq (mSet 3 (mPick (mPick (mBin fIx (mVar 1) (mC (.int 0))) (mGet (mVar 1) (mC (.int 0)))) (mBin fIxS (mVar 1) (mC (.int 0)))))
  (mSeq (mIfS (mTb (mBin fNeD (mGetK 58 [("tie", 3), ("same", 3), ("colour", 3), ("not", 2), ("all", 2), ("some", 2), ("least", 4)] (mC (.glo 58)) (mVar 3)) (mCl (orC (orC cLen (cLenI 5 (mFn 1 m_c19m3))) cLenS) (mCons (mVar 1) mNil))))
  (mRet (mC .non))
  mPass)
  (mSeq (mIfS (mPick (mTb (mIn false (mVar 3) (mTup (mCons (mC (.str "tie")) (mCons (mC (.str "same")) mNil))))) (mTb (mBin (fInD false) (mVar 3) (mTup (mCons (mC (.str "tie")) (mCons (mC (.str "same")) mNil))))))
  (mRet (mCallP 3 (mFn 3 m_d31) (mCons (mPick (mPick (mBin fIx (mVar 1) (mC (.int 1))) (mGet (mVar 1) (mC (.int 1)))) (mBin fIxS (mVar 1) (mC (.int 1)))) (mCons (mPick (mPick (mBin fIx (mVar 1) (mC (.int 2))) (mGet (mVar 1) (mC (.int 2)))) (mBin fIxS (mVar 1) (mC (.int 2)))) (mCons (mVar 0) mNil)))))
  mPass)
  (mSeq (mIfS (mPick (mTb (mIn false (mVar 3) (mTup (mCons (mC (.str "all")) (mCons (mC (.str "some")) mNil))))) (mTb (mBin (fInD false) (mVar 3) (mTup (mCons (mC (.str "all")) (mCons (mC (.str "some")) mNil))))))
  (mRet (mCall 2 (mFn 5 m_d33) (mCons (mPick (mPick (mBin fIx (mVar 1) (mC (.int 1))) (mGet (mVar 1) (mC (.int 1)))) (mBin fIxS (mVar 1) (mC (.int 1)))) (mCons (mVar 2) mNil))))
  mPass)
  (mSeq (mIfS (mTb (mBin fEqD (mVar 3) (mC (.str "not"))))
  (mRet (mCall 2 (mFn 5 m_d33) (mCons (mPick (mPick (mSl sTup (mVar 1) (mSoP (mC (.int 1))) mNoP) (mSl sStr (mVar 1) (mSoP (mC (.int 1))) mNoP)) (mL (mSl sLst (mVar 1) (mSoP (mC (.int 1))) mNoP))) (mCons (mVar 2) mNil))))
  mPass)
  (mRet (mIf (mTb (mBin fEqD (mVar 3) (mC (.str "colour")))) (mCallP 2 (mFn 2 m_d32) (mCons (mVar 0) (mCons (mVar 1) mNil))) (mCall 3 (mFn 4 m_d34) (mCons (mVar 0) (mCons (mVar 1) (mCons (mVar 2) mNil))))))))))))
noncomputable abbrev s_c19m5 : Stmt := inClass (topS 19) 5
theorem sc_c19m5 : FnScope ["self", "other"] ["self", "other"] (defScope s_c19m5) := ⟨rfl, rfl, rfl, by decide +kernel, rfl, by decide +kernel, by decide +kernel⟩
noncomputable def m_c19m5 : MS := (mRet (mAndV (mCl (cIsi isF) (mCons (mVar 1) (mCons (mC (.glo 12)) mNil))) (mAndV (mBin fEqD (mFld 5 0 (mVar 0)) (mFld 5 0 (mVar 1))) (mBin fEqD (mFld 5 1 (mVar 0)) (mFld 5 1 (mVar 1))))))
noncomputable abbrev s_d36 : Stmt := topS 36
theorem sc_d36 : FnScope ["k", "value", "found", "line", "bits"] ["k", "value"] (defScope s_d36) := ⟨rfl, rfl, rfl, by decide +kernel, rfl, by decide +kernel, by decide +kernel⟩
noncomputable def m_d36 : MS := (mSeq (mIfS (mOrT (mNotT (mTb (mCl (cIsi isF) (mCons (mVar 1) (mCons (mC (.glo 2)) mNil))))) (mNotT (mTb (mChain fLeI fLeI (mC (.int 1)) (mCl (orC (orC cLen (cLenI 5 (mFn 1 m_c19m3))) cLenS) (mCons (mVar 1) mNil)) (mC (.int (2000)))))))
  (mRet (mC .non))
  mPass)
  (mSeq (mSet 2 (mN (mLstF mNil)))
  (mSeq (mFor (mPick (mPick (mIT (mVar 1)) (mIL (mVar 1))) (mIS (mVar 1))) (gN 3)
  (mSeq (mSet 4 (mIf (mPick (mTb (mIn false (mVar 3) (mC (.tup [(.tup [(.str "all"), (.tup [])]), (.tup [(.str "some"), (.tup [])])])))) (mPick (mTb (mBin (fInE false) (mVar 3) (mC (.tup [(.tup [(.str "all"), (.tup [])]), (.tup [(.str "some"), (.tup [])])])))) (mTb (mBin (orF (fInD false) (fInI 5 (mFn 2 m_c19m5))) (mVar 3) (mC (.tup [(.tup [(.str "all"), (.tup [])]), (.tup [(.str "some"), (.tup [])])])))))) (mC (.int 0)) (mCall 3 (mFn 4 m_d35) (mCons (mVar 0) (mCons (mVar 3) (mCons (mVar 2) mNil))))))
  (mSeq (mIfS (mTb (mBin (fIsN false) (mVar 4) (mC .non)))
  (mRet (mC .non))
  mPass)
  (mExpr (mMt qAppend isLst (mVar 2) (mCons (mVar 4) mNil))))))
  (mRet (mVar 2)))))
noncomputable abbrev s_d37 : Stmt := topS 37
theorem sc_d37 : FnScope ["k", "value", "found"] ["k", "value"] (defScope s_d37) := ⟨rfl, rfl, rfl, by decide +kernel, rfl, by decide +kernel, by decide +kernel⟩
noncomputable def m_d37 : MS := (mSeq (mSet 2 (mCallP 2 (mFn 5 m_d36) (mCons (mVar 0) (mCons (mVar 1) mNil))))
  (mRet (mAndV (mBin (fIsN true) (mVar 2) (mC .non)) (mBin fEqD (mPick (mPick (mBin fIx (mVar 2) (mUn fNeg (mC (.int 1)))) (mGet (mVar 2) (mUn fNeg (mC (.int 1))))) (mBin fIxS (mVar 2) (mUn fNeg (mC (.int 1))))) (mC (.int 0))))))
noncomputable abbrev s_d38 : Stmt := topS 38
theorem sc_d38 : FnScope ["k", "sentence"] ["k", "sentence"] (defScope s_d38) := ⟨rfl, rfl, rfl, by decide +kernel, rfl, by decide +kernel, by decide +kernel⟩
noncomputable def m_d38 : MS := (mIfS (mNotT (mTb (mCallP 2 (mFn 3 m_d37) (mCons (mVar 0) (mCons (mVar 1) mNil)))))
  (mRaise 2)
  mPass)
noncomputable abbrev s_d43 : Stmt := topS 43
theorem sc_d43 : FnScope ["word", "digits", "digit"] ["word"] (defScope s_d43) := ⟨rfl, rfl, rfl, by decide +kernel, rfl, by decide +kernel, by decide +kernel⟩
noncomputable def m_d43 : MS := (mSeq (mSet 1 (mIf (mTb (mBin fEqD (mPick (mPick (mSl sTup (mVar 0) mNoP (mSoP (mC (.int 1)))) (mSl sStr (mVar 0) mNoP (mSoP (mC (.int 1))))) (mL (mSl sLst (mVar 0) mNoP (mSoP (mC (.int 1)))))) (mC (.str "-")))) (mPick (mPick (mSl sTup (mVar 0) (mSoP (mC (.int 1))) mNoP) (mSl sStr (mVar 0) (mSoP (mC (.int 1))) mNoP)) (mL (mSl sLst (mVar 0) (mSoP (mC (.int 1))) mNoP))) (mVar 0)))
  (mSeq (mIfS (mOrT (mNotT (mTb (mChain fLeI fLeI (mC (.int 1)) (mCl (orC (orC cLen (cLenI 5 (mFn 1 m_c19m3))) cLenS) (mCons (mVar 1) mNil)) (mC (.int (9)))))) (mNotT (mTb (mCl (orC cAll cAllI) (mCons (mL (mLc (mPick (mPick (mIT (mVar 1)) (mIL (mVar 1))) (mIS (mVar 1))) (gN 2) mYes (mPick (mPick (mIn false (mVar 2) (mC (.str "0123456789"))) (mPick (mBin (fInE false) (mVar 2) (mC (.str "0123456789"))) (mBin (orF (fInD false) (fInI 5 (mFn 2 m_c19m5))) (mVar 2) (mC (.str "0123456789"))))) (mBin fInS (mVar 2) (mC (.str "0123456789")))) [2])) mNil)))))
  (mRet (mC .non))
  mPass)
  (mSeq (mIfS (mAndT (mTb (mBin fEqD (mPick (mPick (mBin fIx (mVar 1) (mC (.int 0))) (mGet (mVar 1) (mC (.int 0)))) (mBin fIxS (mVar 1) (mC (.int 0)))) (mC (.str "0")))) (mTb (mBin fNeD (mVar 0) (mC (.str "0")))))
  (mRet (mC .non))
  mPass)
  (mRet (mCl (orC cInt cIntS) (mCons (mVar 0) mNil))))))
noncomputable abbrev s_d44 : Stmt := topS 44
theorem sc_d44 : FnScope ["word", "numbers", "part"] ["word"] (defScope s_d44) := ⟨rfl, rfl, rfl, by decide +kernel, rfl, by decide +kernel, by decide +kernel⟩
noncomputable def m_d44 : MS := (mSeq (mIfS (mTb (mBin (orF fEqD (fEqI 5 (mFn 2 m_c19m5))) (mVar 0) (mC (.str "-"))))
  (mRet (mTup mNil))
  mPass)
  (mSeq (mSet 1 (mL (mLc (mPick (mPick (mIT (mL (mSplit (mVar 0) (mC (.str ","))))) (mIL (mL (mSplit (mVar 0) (mC (.str ",")))))) (mIS (mL (mSplit (mVar 0) (mC (.str ",")))))) (gN 2) mYes (mCallP 1 (mFn 3 m_d43) (mCons (mVar 2) mNil)) [2])))
  (mRet (mIf (mPick (mTb (mIn false (mC .non) (mVar 1))) (mPick (mTb (mBin (fInE false) (mC .non) (mVar 1))) (mTb (mBin (fInD false) (mC .non) (mVar 1))))) (mC .non) (mCl cTuple (mCons (mVar 1) mNil))))))
noncomputable abbrev s_d45 : Stmt := topS 45
theorem sc_d45 : FnScope ["numbers", "number"] ["numbers"] (defScope s_d45) := ⟨rfl, rfl, rfl, by decide +kernel, rfl, by decide +kernel, by decide +kernel⟩
noncomputable def m_d45 : MS := (mRet (mIf (mTb (mBin fGtI (mCl (orC (orC cLen (cLenI 5 (mFn 1 m_c19m3))) cLenS) (mCons (mVar 0) mNil)) (mC (.int 0)))) (mJoin (mC (.str ",")) (mL (mLc (mPick (mPick (mIT (mVar 0)) (mIL (mVar 0))) (mIS (mVar 0))) (gN 1) mYes mNo [1]))) (mC (.str "-"))))
noncomputable abbrev s_d46 : Stmt := topS 46
theorem sc_d46 : FnScope ["member"] ["member"] (defScope s_d46) := ⟨rfl, rfl, rfl, by decide +kernel, rfl, by decide +kernel, by decide +kernel⟩
noncomputable def m_d46 : MS := (mSeq (mIfS (mTb (mCl (cIsi isF) (mCons (mVar 0) (mCons (mC (.glo 2)) mNil))))
  (mRet (mCallP 1 (mFn 2 m_d45) (mCons (mVar 0) mNil)))
  mPass)
  (mRet (mIf (mTb (mCl (cIsi isF) (mCons (mVar 0) (mCons (mC (.glo 5)) mNil)))) (mVar 0) mNo)))
noncomputable abbrev s_d47 : Stmt := topS 47
theorem sc_d47 : FnScope ["members", "member"] ["members"] (defScope s_d47) := ⟨rfl, rfl, rfl, by decide +kernel, rfl, by decide +kernel, by decide +kernel⟩
noncomputable def m_d47 : MS := (mRet (mBin fAdd (mJoin (mC (.str " ")) (mL (mLc (mPick (mPick (mIT (mVar 0)) (mIL (mVar 0))) (mIS (mVar 0))) (gN 1) mYes (mCallP 1 (mFn 1 m_d46) (mCons (mVar 1) mNil)) [1]))) (mC (.str "\n"))))
noncomputable abbrev s_d52 : Stmt := topS 52
theorem sc_d52 : FnScope ["value"] ["value"] (defScope s_d52) := ⟨rfl, rfl, rfl, by decide +kernel, rfl, by decide +kernel, by decide +kernel⟩
noncomputable def m_d52 : MS := (mSeq (mIfS (mOrT (mNotT (mTb (mCl (cIsi isF) (mCons (mVar 0) (mCons (mC (.glo 2)) mNil))))) (mOrT (mTb (mBin fEqD (mVar 0) (mTup mNil))) (mNotT (mTb (mCl (cIsi isF) (mCons (mPick (mPick (mBin fIx (mVar 0) (mC (.int 0))) (mGet (mVar 0) (mC (.int 0)))) (mBin fIxS (mVar 0) (mC (.int 0)))) (mCons (mC (.glo 5)) mNil)))))))
  (mRet (mC (.bl false)))
  mPass)
  (mSeq (mIfS (mOrT (mTb (mBin (fInK 59 [("one", 1), ("point", 2), ("tie", 3), ("same", 3), ("colour", 3), ("glue", 3), ("sum", 3)] true) (mPick (mPick (mBin fIx (mVar 0) (mC (.int 0))) (mGet (mVar 0) (mC (.int 0)))) (mBin fIxS (mVar 0) (mC (.int 0)))) (mC (.glo 59)))) (mTb (mBin fNeD (mCl (orC (orC cLen (cLenI 5 (mFn 1 m_c19m3))) cLenS) (mCons (mVar 0) mNil)) (mBin (fIxK 59 [("one", 1), ("point", 2), ("tie", 3), ("same", 3), ("colour", 3), ("glue", 3), ("sum", 3)]) (mC (.glo 59)) (mPick (mPick (mBin fIx (mVar 0) (mC (.int 0))) (mGet (mVar 0) (mC (.int 0)))) (mBin fIxS (mVar 0) (mC (.int 0))))))))
  (mRet (mC (.bl false)))
  mPass)
  (mRet (mCallP 3 (mFn 4 m_d10) (mCons (mPick (mPick (mSl sTup (mVar 0) (mSoP (mC (.int 1))) mNoP) (mSl sStr (mVar 0) (mSoP (mC (.int 1))) mNoP)) (mL (mSl sLst (mVar 0) (mSoP (mC (.int 1))) mNoP))) (mCons (mC (.int 0)) (mCons (mC (.int (999999999))) mNil)))))))
noncomputable abbrev s_d53 : Stmt := topS 53
theorem sc_d53 : FnScope ["k", "line"] ["k", "line"] (defScope s_d53) := ⟨rfl, rfl, rfl, by decide +kernel, rfl, by decide +kernel, by decide +kernel⟩
noncomputable def m_d53 : MS := (mSeq (mIfS (mTb (mBin fEqD (mPick (mPick (mBin fIx (mVar 1) (mC (.int 0))) (mGet (mVar 1) (mC (.int 0)))) (mBin fIxS (mVar 1) (mC (.int 0)))) (mC (.str "one"))))
  (mRet (mTup mNil))
  mPass)
  (mSeq (mIfS (mTb (mBin fEqD (mPick (mPick (mBin fIx (mVar 1) (mC (.int 0))) (mGet (mVar 1) (mC (.int 0)))) (mBin fIxS (mVar 1) (mC (.int 0)))) (mC (.str "point"))))
  (mRet (mIf (mTb (mBin fLeI (mPick (mPick (mBin fIx (mVar 1) (mC (.int 1))) (mGet (mVar 1) (mC (.int 1)))) (mBin fIxS (mVar 1) (mC (.int 1)))) (mVar 0))) (mTup (mCons (mPick (mPick (mBin fIx (mVar 1) (mC (.int 1))) (mGet (mVar 1) (mC (.int 1)))) (mBin fIxS (mVar 1) (mC (.int 1)))) mNil)) (mC .non)))
  mPass)
  (mSeq (mIfS (mTb (mBin fEqD (mPick (mPick (mBin fIx (mVar 1) (mC (.int 0))) (mGet (mVar 1) (mC (.int 0)))) (mBin fIxS (mVar 1) (mC (.int 0)))) (mC (.str "colour"))))
  (mRet (mIf (mAndT (mTb (mBin fLeI (mPick (mPick (mBin fIx (mVar 1) (mC (.int 1))) (mGet (mVar 1) (mC (.int 1)))) (mBin fIxS (mVar 1) (mC (.int 1)))) (mVar 0))) (mTb (mBin fLeI (mPick (mPick (mBin fIx (mVar 1) (mC (.int 2))) (mGet (mVar 1) (mC (.int 2)))) (mBin fIxS (mVar 1) (mC (.int 2)))) (mC (.int (9)))))) (mTup (mCons (mPick (mPick (mBin fIx (mVar 1) (mC (.int 1))) (mGet (mVar 1) (mC (.int 1)))) (mBin fIxS (mVar 1) (mC (.int 1)))) mNil)) (mC .non)))
  mPass)
  (mRet (mIf (mTb (mChain fLtI fLeI (mPick (mPick (mBin fIx (mVar 1) (mC (.int 1))) (mGet (mVar 1) (mC (.int 1)))) (mBin fIxS (mVar 1) (mC (.int 1)))) (mPick (mPick (mBin fIx (mVar 1) (mC (.int 2))) (mGet (mVar 1) (mC (.int 2)))) (mBin fIxS (mVar 1) (mC (.int 2)))) (mVar 0))) (mTup (mCons (mPick (mPick (mBin fIx (mVar 1) (mC (.int 1))) (mGet (mVar 1) (mC (.int 1)))) (mBin fIxS (mVar 1) (mC (.int 1)))) (mCons (mPick (mPick (mBin fIx (mVar 1) (mC (.int 2))) (mGet (mVar 1) (mC (.int 2)))) (mBin fIxS (mVar 1) (mC (.int 2)))) mNil))) (mC .non))))))
noncomputable abbrev s_d54 : Stmt := topS 54
theorem sc_d54 : FnScope ["k", "line", "ahead", "one", "other", "place", "here"] ["k", "line", "ahead"] (defScope s_d54) := ⟨rfl, rfl, rfl, by decide +kernel, rfl, by decide +kernel, by decide +kernel⟩
noncomputable def m_d54 : MS := (mSeq (mIfS (mNotT (mTb (mCallP 1 (mFn 1 m_d52) (mCons (mVar 1) mNil))))
  (mRet (mC .non))
  mPass)
  (mSeq (mIfS (mTb (mBin fEqD (mPick (mPick (mBin fIx (mVar 1) (mC (.int 0))) (mGet (mVar 1) (mC (.int 0)))) (mBin fIxS (mVar 1) (mC (.int 0)))) (mC (.str "glue"))))
  (mSeq (mPar 3 4 (mCons (mPick (mPick (mBin fIx (mVar 1) (mC (.int 1))) (mGet (mVar 1) (mC (.int 1)))) (mBin fIxS (mVar 1) (mC (.int 1)))) (mCons (mPick (mPick (mBin fIx (mVar 1) (mC (.int 2))) (mGet (mVar 1) (mC (.int 2)))) (mBin fIxS (mVar 1) (mC (.int 2)))) mNil)))
  (mSeq (mIfS (mOrT (mTb (mBin fGeI (mVar 3) (mCl (orC (orC cLen (cLenI 5 (mFn 1 m_c19m3))) cLenS) (mCons (mVar 2) mNil)))) (mTb (mBin fGeI (mVar 4) (mCl (orC (orC cLen (cLenI 5 (mFn 1 m_c19m3))) cLenS) (mCons (mVar 2) mNil)))))
  (mRet (mC .non))
  mPass)
  (mRet (mCl cTuple (mCons (mL (mCl cSortSet (mCons (mBin fAdd (mPick (mPick (mBin fIx (mVar 2) (mVar 3)) (mGet (mVar 2) (mVar 3))) (mBin fIxS (mVar 2) (mVar 3))) (mPick (mPick (mBin fIx (mVar 2) (mVar 4)) (mGet (mVar 2) (mVar 4))) (mBin fIxS (mVar 2) (mVar 4)))) mNil))) mNil)))))
  mPass)
  (mSeq (mIfS (mTb (mBin fEqD (mPick (mPick (mBin fIx (mVar 1) (mC (.int 0))) (mGet (mVar 1) (mC (.int 0)))) (mBin fIxS (mVar 1) (mC (.int 0)))) (mC (.str "sum"))))
  (mSeq (mAsg (mTup (mCons (mPick (mPick (mBin fIx (mVar 1) (mC (.int 1))) (mGet (mVar 1) (mC (.int 1)))) (mBin fIxS (mVar 1) (mC (.int 1)))) (mCons (mPick (mPick (mBin fIx (mVar 1) (mC (.int 2))) (mGet (mVar 1) (mC (.int 2)))) (mBin fIxS (mVar 1) (mC (.int 2)))) mNil))) (gTupM 2 (gsCons (gN 5) (gsCons (gN 3) gsNil))))
  (mSeq (mIfS (mOrT (mTb (mBin fGeI (mVar 3) (mCl (orC (orC cLen (cLenI 5 (mFn 1 m_c19m3))) cLenS) (mCons (mVar 2) mNil)))) (mPick (mTb (mIn true (mVar 5) (mPick (mPick (mBin fIx (mVar 2) (mVar 3)) (mGet (mVar 2) (mVar 3))) (mBin fIxS (mVar 2) (mVar 3))))) (mPick (mTb (mBin (fInE true) (mVar 5) (mPick (mPick (mBin fIx (mVar 2) (mVar 3)) (mGet (mVar 2) (mVar 3))) (mBin fIxS (mVar 2) (mVar 3))))) (mTb (mBin (fInD true) (mVar 5) (mPick (mPick (mBin fIx (mVar 2) (mVar 3)) (mGet (mVar 2) (mVar 3))) (mBin fIxS (mVar 2) (mVar 3))))))))
  (mRet (mC .non))
  mPass)
  (mRet (mCl cTuple (mCons (mL (mLc (mPick (mPick (mIT (mPick (mPick (mBin fIx (mVar 2) (mVar 3)) (mGet (mVar 2) (mVar 3))) (mBin fIxS (mVar 2) (mVar 3)))) (mIL (mPick (mPick (mBin fIx (mVar 2) (mVar 3)) (mGet (mVar 2) (mVar 3))) (mBin fIxS (mVar 2) (mVar 3))))) (mIS (mPick (mPick (mBin fIx (mVar 2) (mVar 3)) (mGet (mVar 2) (mVar 3))) (mBin fIxS (mVar 2) (mVar 3))))) (gN 6) (mTb (mBin fNeD (mVar 6) (mVar 5))) (mVar 6) [6])) mNil)))))
  mPass)
  (mRet (mCallP 2 (mFn 2 m_d53) (mCons (mVar 0) (mCons (mVar 1) mNil)))))))
noncomputable abbrev s_d55 : Stmt := topS 55
theorem sc_d55 : FnScope ["k", "lines", "found", "line", "places"] ["k", "lines"] (defScope s_d55) := ⟨rfl, rfl, rfl, by decide +kernel, rfl, by decide +kernel, by decide +kernel⟩
noncomputable def m_d55 : MS := (mSeq (mSet 2 (mN (mLstF mNil)))
  (mSeq (mFor (mPick (mPick (mIT (mVar 1)) (mIL (mVar 1))) (mIS (mVar 1))) (gN 3)
  (mSeq (mSet 4 (mCall 3 (mFn 7 m_d54) (mCons (mVar 0) (mCons (mVar 3) (mCons (mVar 2) mNil)))))
  (mSeq (mIfS (mTb (mBin (fIsN false) (mVar 4) (mC .non)))
  (mRet (mC .non))
  mPass)
  (mExpr (mMt qAppend isLst (mVar 2) (mCons (mVar 4) mNil))))))
  (mRet (mVar 2))))
noncomputable abbrev s_d58 : Stmt := topS 58
theorem sc_d58 : FnScope ["k", "value"] ["k", "value"] (defScope s_d58) := ⟨rfl, rfl, rfl, by decide +kernel, rfl, by decide +kernel, by decide +kernel⟩
noncomputable def m_d58 : MS := (mSeq (mIfS (mOrT (mNotT (mTb (mCl (cIsi isF) (mCons (mVar 1) (mCons (mC (.glo 2)) mNil))))) (mNotT (mTb (mChain fLeI fLeI (mC (.int 1)) (mCl (orC (orC cLen (cLenI 5 (mFn 1 m_c19m3))) cLenS) (mCons (mVar 1) mNil)) (mC (.int (2000)))))))
  (mRet (mC .non))
  mPass)
  (mRet (mCallP 2 (mFn 5 m_d55) (mCons (mVar 0) (mCons (mVar 1) mNil)))))
noncomputable abbrev s_d59 : Stmt := topS 59
theorem sc_d59 : FnScope ["recipe", "k", "places"] ["recipe", "k"] (defScope s_d59) := ⟨rfl, rfl, rfl, by decide +kernel, rfl, by decide +kernel, by decide +kernel⟩
noncomputable def m_d59 : MS := (mSeq (mExpr (mCallP 1 (mFn 1 m_d24) (mCons (mVar 1) mNil)))
  (mSeq (mSet 2 (mCallP 2 (mFn 2 m_d58) (mCons (mVar 1) (mCons (mVar 0) mNil))))
  (mSeq (mIfS (mTb (mBin (fIsN false) (mVar 2) (mC .non)))
  (mRaise 1)
  mPass)
  (mRet (mVar 2)))))
noncomputable abbrev s_d62 : Stmt := topS 62
theorem sc_d62 : FnScope ["text", "lines", "last"] ["text"] (defScope s_d62) := ⟨rfl, rfl, rfl, by decide +kernel, rfl, by decide +kernel, by decide +kernel⟩
noncomputable def m_d62 : MS := (mSeq (mIfS (mNotT (mTb (mCl (cIsi isF) (mCons (mVar 0) (mCons (mC (.glo 5)) mNil)))))
  (mRaise1 4 (mC .non))
  mPass)
  (mSeq (mSet 1 (mN (mCl (orF2 cList cListD) (mCons (mL (mSplit (mVar 0) (mC (.str "\n")))) mNil))))
  (mSeq (mSet 2 (mMt qPop isLst (mVar 1) mNil))
  (mRet (mIf (mTb (mBin fEqD (mVar 2) (mC (.str "")))) (mVar 1) (mBin fAdd (mVar 1) (mL (mLstF (mCons (mC .non) mNil)))))))))
noncomputable abbrev s_d63 : Stmt := topS 63
theorem sc_d63 : FnScope ["line", "words", "members", "word"] ["line"] (defScope s_d63) := ⟨rfl, rfl, rfl, by decide +kernel, rfl, by decide +kernel, by decide +kernel⟩
noncomputable def m_d63 : MS := (mSeq (mIfS (mTb (mBin (fIsN false) (mVar 0) (mC .non)))
  (mRet (mC .non))
  mPass)
  (mSeq (mSet 1 (mL (mSplit (mVar 0) (mC (.str " ")))))
  (mSeq (mIfS (mPick (mTb (mIn false (mPick (mPick (mBin fIx (mVar 1) (mC (.int 0))) (mGet (mVar 1) (mC (.int 0)))) (mBin fIxS (mVar 1) (mC (.int 0)))) (mC (.tup [(.str "all"), (.str "some")])))) (mPick (mTb (mBin (fInE false) (mPick (mPick (mBin fIx (mVar 1) (mC (.int 0))) (mGet (mVar 1) (mC (.int 0)))) (mBin fIxS (mVar 1) (mC (.int 0)))) (mC (.tup [(.str "all"), (.str "some")])))) (mTb (mBin (orF (fInD false) (fInI 5 (mFn 2 m_c19m5))) (mPick (mPick (mBin fIx (mVar 1) (mC (.int 0))) (mGet (mVar 1) (mC (.int 0)))) (mBin fIxS (mVar 1) (mC (.int 0)))) (mC (.tup [(.str "all"), (.str "some")]))))))
  (mSet 2 (mL (mLc (mPick (mPick (mIT (mPick (mPick (mSl sTup (mVar 1) (mSoP (mC (.int 1))) mNoP) (mSl sStr (mVar 1) (mSoP (mC (.int 1))) mNoP)) (mL (mSl sLst (mVar 1) (mSoP (mC (.int 1))) mNoP)))) (mIL (mPick (mPick (mSl sTup (mVar 1) (mSoP (mC (.int 1))) mNoP) (mSl sStr (mVar 1) (mSoP (mC (.int 1))) mNoP)) (mL (mSl sLst (mVar 1) (mSoP (mC (.int 1))) mNoP))))) (mIS (mPick (mPick (mSl sTup (mVar 1) (mSoP (mC (.int 1))) mNoP) (mSl sStr (mVar 1) (mSoP (mC (.int 1))) mNoP)) (mL (mSl sLst (mVar 1) (mSoP (mC (.int 1))) mNoP))))) (gN 3) mYes (mCallP 1 (mFn 3 m_d44) (mCons (mVar 3) mNil)) [3])))
  (mSet 2 (mL (mLc (mPick (mPick (mIT (mPick (mPick (mSl sTup (mVar 1) (mSoP (mC (.int 1))) mNoP) (mSl sStr (mVar 1) (mSoP (mC (.int 1))) mNoP)) (mL (mSl sLst (mVar 1) (mSoP (mC (.int 1))) mNoP)))) (mIL (mPick (mPick (mSl sTup (mVar 1) (mSoP (mC (.int 1))) mNoP) (mSl sStr (mVar 1) (mSoP (mC (.int 1))) mNoP)) (mL (mSl sLst (mVar 1) (mSoP (mC (.int 1))) mNoP))))) (mIS (mPick (mPick (mSl sTup (mVar 1) (mSoP (mC (.int 1))) mNoP) (mSl sStr (mVar 1) (mSoP (mC (.int 1))) mNoP)) (mL (mSl sLst (mVar 1) (mSoP (mC (.int 1))) mNoP))))) (gN 3) mYes (mCallP 1 (mFn 3 m_d43) (mCons (mVar 3) mNil)) [3]))))
  (mRet (mIf (mPick (mTb (mIn false (mC .non) (mVar 2))) (mPick (mTb (mBin (fInE false) (mC .non) (mVar 2))) (mTb (mBin (fInD false) (mC .non) (mVar 2))))) (mC .non) (mCl cTuple (mCons (mBin fAdd (mL (mLstF (mCons (mPick (mPick (mBin fIx (mVar 1) (mC (.int 0))) (mGet (mVar 1) (mC (.int 0)))) (mBin fIxS (mVar 1) (mC (.int 0)))) mNil))) (mVar 2)) mNil)))))))
noncomputable abbrev s_c19m1 : Stmt := inClass (topS 19) 1
theorem sc_c19m1 : FnScope ["self", "point"] ["self", "point"] (defScope s_c19m1) := ⟨rfl, rfl, rfl, by decide +kernel, rfl, by decide +kernel, by decide +kernel⟩
noncomputable def m_c19m1 : MS := (mSeq (mExpr (mCallP 2 (mFn 2 m_d21) (mCons (mVar 0) (mCons (mVar 1) mNil))))
  (mRet (mPick (mPick (mBin fIx (mFld 5 2 (mVar 0)) (mVar 1)) (mGet (mFld 5 2 (mVar 0)) (mVar 1))) (mBin fIxS (mFld 5 2 (mVar 0)) (mVar 1)))))
noncomputable abbrev s_d64 : Stmt := topS 64
theorem sc_d64 : FnScope ["web", "lines", "point", "greater", "there"] ["web"] (defScope s_d64) := ⟨rfl, rfl, rfl, by decide +kernel, rfl, by decide +kernel, by decide +kernel⟩
noncomputable def m_d64 : MS := (mSeq (mExpr (mCallP 1 (mFn 1 m_d20) (mCons (mVar 0) mNil)))
  (mSeq (mSet 1 (mN (mLstF (mCons (mCallP 1 (mFn 2 m_d47) (mCons (mTup (mCons (mC (.str "web")) (mCons (mFld 5 0 (mVar 0)) mNil))) mNil)) mNil))))
  (mSeq (mFor (mIR1 (mCons (mCl (orC (orC cLen (cLenI 5 (mFn 1 m_c19m3))) cLenS) (mCons (mVar 0) mNil)) mNil)) (gN 2)
  (mSeq (mSet 3 (mCl cTuple (mCons (mL (mLc (mPick (mPick (mIT (mMeth 5 2 (runP 2) (mFn 2 m_c19m1) (mVar 0) (mCons (mVar 2) mNil))) (mIL (mMeth 5 2 (runP 2) (mFn 2 m_c19m1) (mVar 0) (mCons (mVar 2) mNil)))) (mIS (mMeth 5 2 (runP 2) (mFn 2 m_c19m1) (mVar 0) (mCons (mVar 2) mNil)))) (gN 4) (mTb (mBin fGtI (mVar 4) (mVar 2))) (mVar 4) [4])) mNil)))
  (mIfS (mTb (mBin fNeD (mVar 3) (mTup mNil)))
  (mExpr (mMt qAppend isLst (mVar 1) (mCons (mCallP 1 (mFn 2 m_d47) (mCons (mTup (mCons (mVar 2) (mCons (mVar 3) mNil))) mNil)) mNil)))
  mPass)))
  (mRet (mJoin (mC (.str "")) (mVar 1))))))
noncomputable abbrev s_d65 : Stmt := topS 65
theorem sc_d65 : FnScope ["line", "words", "colours"] ["line"] (defScope s_d65) := ⟨rfl, rfl, rfl, by decide +kernel, rfl, by decide +kernel, by decide +kernel⟩
noncomputable def m_d65 : MS := (mSeq (mSet 1 (mIf (mTb (mBin (fIsN false) (mVar 0) (mC .non))) (mL (mLstF mNil)) (mL (mSplit (mVar 0) (mC (.str " "))))))
  (mSeq (mIfS (mOrT (mTb (mBin fNeD (mCl (orC (orC cLen (cLenI 5 (mFn 1 m_c19m3))) cLenS) (mCons (mVar 1) mNil)) (mC (.int 2)))) (mTb (mBin fNeD (mPick (mPick (mBin fIx (mVar 1) (mC (.int 0))) (mGet (mVar 1) (mC (.int 0)))) (mBin fIxS (mVar 1) (mC (.int 0)))) (mC (.str "web")))))
  (mRet (mC .non))
  mPass)
  (mSeq (mSet 2 (mCallP 1 (mFn 3 m_d44) (mCons (mPick (mPick (mBin fIx (mVar 1) (mC (.int 1))) (mGet (mVar 1) (mC (.int 1)))) (mBin fIxS (mVar 1) (mC (.int 1)))) mNil)))
  (mRet (mIf (mAndT (mTb (mCallP 1 (mFn 1 m_d16) (mCons (mVar 2) mNil))) (mTb (mBin fLeI (mCl (orC (orC (orC cLen (cLenI 5 (mFn 1 m_c19m3))) cLenS) cLenD) (mCons (mVar 2) mNil)) (mC (.int (40)))))) (mVar 2) (mC .non))))))
noncomputable abbrev s_d66 : Stmt := topS 66
theorem sc_d66 : FnScope ["line", "least", "many", "words", "point", "greater", "there"] ["line", "least", "many"] (defScope s_d66) := ⟨rfl, rfl, rfl, by decide +kernel, rfl, by decide +kernel, by decide +kernel⟩
noncomputable def m_d66 : MS := (mSeq (mSet 3 (mIf (mTb (mBin (fIsN false) (mVar 0) (mC .non))) (mL (mLstF mNil)) (mL (mSplit (mVar 0) (mC (.str " "))))))
  (mSeq (mIfS (mTb (mBin fNeD (mCl (orC (orC cLen (cLenI 5 (mFn 1 m_c19m3))) cLenS) (mCons (mVar 3) mNil)) (mC (.int 2))))
  (mRet (mC .non))
  mPass)
  (mSeq (mAsg (mTup (mCons (mCallP 1 (mFn 3 m_d43) (mCons (mPick (mPick (mBin fIx (mVar 3) (mC (.int 0))) (mGet (mVar 3) (mC (.int 0)))) (mBin fIxS (mVar 3) (mC (.int 0)))) mNil)) (mCons (mCallP 1 (mFn 3 m_d44) (mCons (mPick (mPick (mBin fIx (mVar 3) (mC (.int 1))) (mGet (mVar 3) (mC (.int 1)))) (mBin fIxS (mVar 3) (mC (.int 1)))) mNil)) mNil))) (gTupM 2 (gsCons (gN 4) (gsCons (gN 5) gsNil))))
  (mSeq (mIfS (mOrT (mTb (mBin (fIsN false) (mVar 4) (mC .non))) (mOrT (mTb (mBin (orF fLtI fLtT) (mVar 4) (mVar 1))) (mOrT (mTb (mBin (fIsN false) (mVar 5) (mC .non))) (mTb (mBin fEqD (mVar 5) (mTup mNil))))))
  (mRet (mC .non))
  mPass)
  (mSeq (mIfS (mOrT (mTb (mBin fLeI (mPick (mPick (mBin fIx (mVar 5) (mC (.int 0))) (mGet (mVar 5) (mC (.int 0)))) (mBin fIxS (mVar 5) (mC (.int 0)))) (mVar 4))) (mOrT (mTb (mBin fGeI (mPick (mPick (mBin fIx (mVar 5) (mUn fNeg (mC (.int 1)))) (mGet (mVar 5) (mUn fNeg (mC (.int 1))))) (mBin fIxS (mVar 5) (mUn fNeg (mC (.int 1))))) (mVar 2))) (mNotT (mTb (mCallP 1 (mFn 2 m_d11) (mCons (mVar 5) mNil))))))
  (mRet (mC .non))
  mPass)
  (mRet (mL (mLc (mPick (mPick (mIT (mVar 5)) (mIL (mVar 5))) (mIS (mVar 5))) (gN 6) mYes (mTup (mCons (mVar 4) (mCons (mVar 6) mNil))) [6]))))))))
noncomputable abbrev s_c19m0 : Stmt := inClass (topS 19) 0
theorem sc_c19m0 : FnScope ["self", "colours", "ties", "points"] ["self", "colours", "ties"] (defScope s_c19m0) := ⟨rfl, rfl, rfl, by decide +kernel, rfl, by decide +kernel, by decide +kernel⟩
noncomputable def m_c19m0 : MS := (mSeq (mIfS (mOrT (mNotT (mTb (mCallP 1 (mFn 1 m_d16) (mCons (mVar 1) mNil)))) (mTb (mBin fGtI (mCl (orC (orC cLen (cLenI 5 (mFn 1 m_c19m3))) cLenS) (mCons (mVar 1) mNil)) (mC (.int (40))))))
  (mRaise 0)
  mPass)
  (mSeq (mIfS (mNotT (mTb (mCallP 2 (mFn 3 m_d17) (mCons (mVar 2) (mCons (mCl (orC (orC cLen (cLenI 5 (mFn 1 m_c19m3))) cLenS) (mCons (mVar 1) mNil)) mNil)))))
  (mRaise 0)
  mPass)
  (mSeq (mSetF 5 0 (mVar 0) (mVar 1))
  (mSeq (mSetF 5 1 (mVar 0) (mVar 2))
  (mSeq (mSetF 5 2 (mVar 0) (mCallP 2 (mFn 7 m_d18) (mCons (mCl (orC (orC cLen (cLenI 5 (mFn 1 m_c19m3))) cLenS) (mCons (mVar 1) mNil)) (mCons (mVar 2) mNil))))
  (mSetF 5 3 (mVar 0) (mCl cTuple (mCons (mL (mLc (mPick (mPick (mIT (mFld 5 2 (mVar 0))) (mIL (mFld 5 2 (mVar 0)))) (mIS (mFld 5 2 (mVar 0)))) (gN 3) mYes (mCl (orC (orC cLen (cLenI 5 (mFn 1 m_c19m3))) cLenS) (mCons (mVar 3) mNil)) [3])) mNil))))))))
noncomputable abbrev s_d67 : Stmt := topS 67
theorem sc_d67 : FnScope ["text", "lines", "colours", "found", "at", "least", "ties"] ["text"] (defScope s_d67) := ⟨rfl, rfl, rfl, by decide +kernel, rfl, by decide +kernel, by decide +kernel⟩
noncomputable def m_d67 : MS := (mSeq (mSet 1 (mCallP 1 (mFn 3 m_d62) (mCons (mVar 0) mNil)))
  (mSeq (mSet 2 (mIf (mTb (mBin fNeD (mVar 1) (mL (mLstF mNil)))) (mCallP 1 (mFn 3 m_d65) (mCons (mPick (mPick (mBin fIx (mVar 1) (mC (.int 0))) (mGet (mVar 1) (mC (.int 0)))) (mBin fIxS (mVar 1) (mC (.int 0)))) mNil)) (mC .non)))
  (mSeq (mIfS (mTb (mBin (fIsN false) (mVar 2) (mC .non)))
  (mRaise1 4 (mC (.int 0)))
  mPass)
  (mSeq (mSet 3 (mN (mLstF mNil)))
  (mSeq (mFor (mIR2 (mCons (mC (.int 1)) (mCons (mCl (orC (orC (orC cLen (cLenI 5 (mFn 1 m_c19m3))) cLenS) cLenD) (mCons (mVar 1) mNil)) mNil))) (gN 4)
  (mSeq (mSet 5 (mIf (mTb (mBin fNeD (mVar 3) (mL (mLstF mNil)))) (mBin fAdd (mPick (mPick (mBin fIx (mPick (mPick (mBin fIx (mVar 3) (mUn fNeg (mC (.int 1)))) (mGet (mVar 3) (mUn fNeg (mC (.int 1))))) (mBin fIxS (mVar 3) (mUn fNeg (mC (.int 1))))) (mC (.int 0))) (mGet (mPick (mPick (mBin fIx (mVar 3) (mUn fNeg (mC (.int 1)))) (mGet (mVar 3) (mUn fNeg (mC (.int 1))))) (mBin fIxS (mVar 3) (mUn fNeg (mC (.int 1))))) (mC (.int 0)))) (mBin fIxS (mPick (mPick (mBin fIx (mVar 3) (mUn fNeg (mC (.int 1)))) (mGet (mVar 3) (mUn fNeg (mC (.int 1))))) (mBin fIxS (mVar 3) (mUn fNeg (mC (.int 1))))) (mC (.int 0)))) (mC (.int 1))) (mC (.int 0))))
  (mSeq (mSet 6 (mCallP 3 (mFn 7 m_d66) (mCons (mPick (mPick (mBin fIx (mVar 1) (mVar 4)) (mGet (mVar 1) (mVar 4))) (mBin fIxS (mVar 1) (mVar 4))) (mCons (mVar 5) (mCons (mCl (orC (orC cLen (cLenI 5 (mFn 1 m_c19m3))) cLenS) (mCons (mVar 2) mNil)) mNil)))))
  (mSeq (mIfS (mTb (mBin (fIsN false) (mVar 6) (mC .non)))
  (mRaise1 4 (mVar 4))
  mPass)
  (mExpr (mMt qExtend isLst (mVar 3) (mCons (mVar 6) mNil)))))))
  (mRet (mMk 5 4 3 (mFn 4 m_c19m0) (mCons (mVar 2) (mCons (mCl cTuple (mCons (mVar 3) mNil)) mNil)))))))))
noncomputable abbrev s_d68 : Stmt := topS 68
theorem sc_d68 : FnScope ["k", "sentence", "line"] ["k", "sentence"] (defScope s_d68) := ⟨rfl, rfl, rfl, by decide +kernel, rfl, by decide +kernel, by decide +kernel⟩
noncomputable def m_d68 : MS := (mSeq (mExpr (mCallP 1 (mFn 1 m_d24) (mCons (mVar 0) mNil)))
  (mSeq (mExpr (mCallP 2 (mFn 2 m_d38) (mCons (mVar 0) (mCons (mVar 1) mNil))))
  (mRet (mJoin (mC (.str "")) (mL (mLc (mPick (mPick (mIT (mVar 1)) (mIL (mVar 1))) (mIS (mVar 1))) (gN 2) mYes (mCallP 1 (mFn 2 m_d47) (mCons (mVar 2) mNil)) [2]))))))
noncomputable abbrev s_d69 : Stmt := topS 69
theorem sc_d69 : FnScope ["k", "text", "found", "free", "at", "told", "line", "bits"] ["k", "text"] (defScope s_d69) := ⟨rfl, rfl, rfl, by decide +kernel, rfl, by decide +kernel, by decide +kernel⟩
noncomputable def m_d69 : MS := (mSeq (mExpr (mCallP 1 (mFn 1 m_d24) (mCons (mVar 0) mNil)))
  (mSeq (mSet 2 (mN (mLstF mNil)))
  (mSeq (mSet 3 (mN (mLstF mNil)))
  (mSeq (mFor (mPick (mIE (mCons (mCallP 1 (mFn 3 m_d62) (mCons (mVar 1) mNil)) mNil)) (mIEt (mCons (mCallP 1 (mFn 3 m_d62) (mCons (mVar 1) mNil)) mNil))) (gTupM 2 (gsCons (gN 4) (gsCons (gN 5) gsNil)))
  (mSeq (mSet 6 (mCallP 1 (mFn 4 m_d63) (mCons (mVar 5) mNil)))
  (mSeq (mSet 7 (mIf (mOrT (mTb (mBin fGeI (mVar 4) (mC (.int (2000))))) (mTb (mBin (fIsN false) (mVar 6) (mC .non)))) (mC .non) (mCall 3 (mFn 4 m_d35) (mCons (mVar 0) (mCons (mVar 6) (mCons (mVar 3) mNil))))))
  (mSeq (mIfS (mTb (mBin (fIsN false) (mVar 7) (mC .non)))
  (mRaise1 4 (mVar 4))
  mPass)
  (mSeq (mExpr (mMt qAppend isLst (mVar 2) (mCons (mVar 6) mNil)))
  (mExpr (mMt qAppend isLst (mVar 3) (mCons (mVar 7) mNil))))))))
  (mSeq (mIfS (mOrT (mTb (mBin fEqD (mVar 2) (mL (mLstF mNil)))) (mTb (mBin fNeD (mPick (mPick (mBin fIx (mVar 3) (mUn fNeg (mC (.int 1)))) (mGet (mVar 3) (mUn fNeg (mC (.int 1))))) (mBin fIxS (mVar 3) (mUn fNeg (mC (.int 1))))) (mC (.int 0)))))
  (mRaise1 4 (mCl (orC (orC cLen (cLenI 5 (mFn 1 m_c19m3))) cLenS) (mCons (mVar 2) mNil)))
  mPass)
  (mRet (mCl cTuple (mCons (mVar 2) mNil))))))))
noncomputable abbrev s_d70 : Stmt := topS 70
theorem sc_d70 : FnScope ["k", "recipe", "line"] ["k", "recipe"] (defScope s_d70) := ⟨rfl, rfl, rfl, by decide +kernel, rfl, by decide +kernel, by decide +kernel⟩
noncomputable def m_d70 : MS := (mSeq (mExpr (mCallP 2 (mFn 3 m_d59) (mCons (mVar 1) (mCons (mVar 0) mNil))))
  (mRet (mJoin (mC (.str "")) (mL (mLc (mPick (mPick (mIT (mVar 1)) (mIL (mVar 1))) (mIS (mVar 1))) (gN 2) mYes (mCallP 1 (mFn 2 m_d47) (mCons (mVar 2) mNil)) [2])))))
noncomputable abbrev s_d71 : Stmt := topS 71
theorem sc_d71 : FnScope ["k", "text", "found", "places", "at", "told", "line", "own"] ["k", "text"] (defScope s_d71) := ⟨rfl, rfl, rfl, by decide +kernel, rfl, by decide +kernel, by decide +kernel⟩
noncomputable def m_d71 : MS := (mSeq (mExpr (mCallP 1 (mFn 1 m_d24) (mCons (mVar 0) mNil)))
  (mSeq (mSet 2 (mN (mLstF mNil)))
  (mSeq (mSet 3 (mN (mLstF mNil)))
  (mSeq (mFor (mPick (mIE (mCons (mCallP 1 (mFn 3 m_d62) (mCons (mVar 1) mNil)) mNil)) (mIEt (mCons (mCallP 1 (mFn 3 m_d62) (mCons (mVar 1) mNil)) mNil))) (gTupM 2 (gsCons (gN 4) (gsCons (gN 5) gsNil)))
  (mSeq (mSet 6 (mCallP 1 (mFn 4 m_d63) (mCons (mVar 5) mNil)))
  (mSeq (mSet 7 (mIf (mOrT (mTb (mBin fGeI (mVar 4) (mC (.int (2000))))) (mTb (mBin (fIsN false) (mVar 6) (mC .non)))) (mC .non) (mCall 3 (mFn 7 m_d54) (mCons (mVar 0) (mCons (mVar 6) (mCons (mVar 3) mNil))))))
  (mSeq (mIfS (mTb (mBin (fIsN false) (mVar 7) (mC .non)))
  (mRaise1 4 (mVar 4))
  mPass)
  (mSeq (mExpr (mMt qAppend isLst (mVar 2) (mCons (mVar 6) mNil)))
  (mExpr (mMt qAppend isLst (mVar 3) (mCons (mVar 7) mNil))))))))
  (mSeq (mIfS (mTb (mBin fEqD (mVar 2) (mL (mLstF mNil))))
  (mRaise1 4 (mC (.int 0)))
  mPass)
  (mRet (mCl cTuple (mCons (mVar 2) mNil))))))))
noncomputable abbrev s_d73 : Stmt := topS 73
theorem sc_d73 : FnScope ["script", "spot", "cell", "great"] ["script", "spot"] (defScope s_d73) := ⟨rfl, rfl, rfl, by decide +kernel, rfl, by decide +kernel, by decide +kernel⟩
noncomputable def m_d73 : MS := (mSeq (mSet 2 (mIf (mTb (mBin (orF fLtI fLtT) (mVar 1) (mCl (orC cLen (cLenI 5 (mFn 1 m_c19m3))) (mCons (mVar 0) mNil)))) (mCl cInt (mCons (mPick (mBin fIx (mVar 0) (mVar 1)) (mGet (mVar 0) (mVar 1))) mNil)) (mBin fAdd (mBin (orF fMulW fRepW) (mC (.int 619)) (mVar 1)) (mC (.int 71)))))
  (mSeq (mSet 3 (mBin fModI (mCl cInt (mCons (mCl cAbs (mCons (mVar 2) mNil)) mNil)) (mBin fPowX (mBin fPowX (mC (.int 10)) (mC (.int 55))) (mC (.int 6)))))
  (mRet (mN (mLstF (mCons (mCl cMax2 (mCons (mC (.int 0)) (mCons (mBin fSubI (mVar 3) (mBin fPowX (mC (.int 10)) (mC (.int 16)))) mNil))) (mCons (mBin fAdd (mBin fAdd (mBin fAdd (mBin (orF fMulW fRepW) (mBin fModI (mCl cInt (mCons (mVar 3) mNil)) (mC (.int 2147483399))) (mC (.int 331))) (mBin (orF fMulW fRepW) (mC (.int 643)) (mVar 1))) (mBin (orF fMulW fRepW) (mC (.int 29)) (mCl cInt (mCons (mBin (orF fLtI fLtT) (mVar 2) (mC (.int 0))) mNil)))) (mC (.int 17))) (mCons (mC (.int 0)) mNil))))))))
noncomputable abbrev s_d74 : Stmt := topS 74
theorem sc_d74 : FnScope ["hat", "total", "found", "one", "two"] ["hat", "total"] (defScope s_d74) := ⟨rfl, rfl, rfl, by decide +kernel, rfl, by decide +kernel, by decide +kernel⟩
noncomputable def m_d74 : MS := (mSeq (mIfS (mTb (mBin fGtI (mPick (mBin fIx (mVar 0) (mC (.int 0))) (mGet (mVar 0) (mC (.int 0)))) (mC (.int 0))))
  (mSeq (mSet 2 (mBin fModI (mCl cInt (mCons (mPick (mBin fIx (mVar 0) (mC (.int 0))) (mGet (mVar 0) (mC (.int 0)))) mNil)) (mVar 1)))
  (mSeq (mPickS (mAsg (mBin fDivW (mPick (mBin fIx (mVar 0) (mC (.int 0))) (mGet (mVar 0) (mC (.int 0)))) (mVar 1)) (gSubL (mVar 0) (mC (.int 0)))) (mPut (mVar 0) (mC (.int 0)) (mBin fDivW (mPick (mBin fIx (mVar 0) (mC (.int 0))) (mGet (mVar 0) (mC (.int 0)))) (mVar 1))))
  (mRet (mVar 2))))
  mPass)
  (mSeq (mPickS (mAsg (mBin fAdd (mPick (mBin fIx (mVar 0) (mC (.int 2))) (mGet (mVar 0) (mC (.int 2)))) (mC (.int 1))) (gSubL (mVar 0) (mC (.int 2)))) (mPut (mVar 0) (mC (.int 2)) (mBin fAdd (mPick (mBin fIx (mVar 0) (mC (.int 2))) (mGet (mVar 0) (mC (.int 2)))) (mC (.int 1)))))
  (mSeq (mSet 3 (mBin fModI (mCl cInt (mCons (mBin fAdd (mPick (mBin fIx (mVar 0) (mC (.int 1))) (mGet (mVar 0) (mC (.int 1)))) (mBin (orF fMulW fRepW) (mC (.int 15485867)) (mPick (mBin fIx (mVar 0) (mC (.int 2))) (mGet (mVar 0) (mC (.int 2)))))) mNil)) (mC (.int 2305843009213693951))))
  (mSeq (mSet 4 (mBin fAdd (mBin (orF fMulW fRepW) (mBin fModI (mCl cInt (mCons (mBin fAdd (mBin (orF fMulW fRepW) (mVar 3) (mVar 3)) (mBin (orF fMulW fRepW) (mC (.int 373)) (mPick (mBin fIx (mVar 0) (mC (.int 2))) (mGet (mVar 0) (mC (.int 2)))))) mNil)) (mC (.int 2305843009213693921))) (mC (.int 6700417))) (mVar 3)))
  (mRet (mBin fModI (mCl cInt (mCons (mBin fDivW (mVar 4) (mC (.int 65551))) mNil)) (mVar 1)))))))
noncomputable abbrev s_d75 : Stmt := topS 75
theorem sc_d75 : FnScope ["items", "turn"] ["items", "turn"] (defScope s_d75) := ⟨rfl, rfl, rfl, by decide +kernel, rfl, by decide +kernel, by decide +kernel⟩
noncomputable def m_d75 : MS := (mRet (mPick (mBin fIx (mVar 0) (mBin fModI (mCl cInt (mCons (mVar 1) mNil)) (mCl (orC cLen (cLenI 5 (mFn 1 m_c19m3))) (mCons (mVar 0) mNil)))) (mGet (mVar 0) (mBin fModI (mCl cInt (mCons (mVar 1) mNil)) (mCl (orC cLen (cLenI 5 (mFn 1 m_c19m3))) (mCons (mVar 0) mNil))))))
noncomputable abbrev s_d77 : Stmt := topS 77
theorem sc_d77 : FnScope ["turn", "bad", "k", "text", "odd", "more", "met", "due", "call", "value", "word"] ["turn"] (defScope s_d77) := ⟨rfl, rfl, rfl, by decide +kernel, rfl, by decide +kernel, by decide +kernel⟩
noncomputable def m_d77 : MS := (mSeq (mSet 1 (mCallP 2 (mFn 2 m_d75) (mCons (mL (mLstF (mCons (mC .non) (mCons (mC (.int 0)) (mCons (mTup mNil) (mCons (mTup (mCons (mTup (mCons (mC (.int 0)) mNil)) (mCons (mTup mNil) mNil))) (mCons (mC (.str "web -")) (mCons (mD mDnil) (mCons (mL (mLstF (mCons (mMk 5 4 3 (mFn 4 m_c19m0) (mCons (mTup mNil) (mCons (mTup mNil) mNil))) mNil))) (mCons (mC (.bl true)) mNil)))))))))) (mCons (mVar 0) mNil))))
  (mSeq (mSet 2 (mCallP 2 (mFn 2 m_d75) (mCons (mL (mLstF (mCons (mC .non) (mCons (mC (.int 0)) (mCons (mC (.int 4)) (mCons (mC (.bl true)) (mCons (mC (.str "1")) (mCons (mTup (mCons (mC (.int 1)) mNil)) (mCons (mUn fNeg (mC (.int 1))) (mCons (mBin fPowX (mC (.int 10)) (mC (.int 30))) mNil)))))))))) (mCons (mVar 0) mNil))))
  (mSeq (mSet 3 (mCallP 2 (mFn 2 m_d75) (mCons (mL (mLstF (mCons (mC .non) (mCons (mC (.int 0)) (mCons (mTup (mCons (mC (.str "web -")) mNil)) (mCons (mL (mLstF (mCons (mC (.str "web -")) mNil))) (mCons (mC (.bl true)) (mCons (mD mDnil) (mCons (mBin fPowX (mC (.int 10)) (mC (.int 30))) mNil))))))))) (mCons (mVar 0) mNil))))
  (mSeq (mSet 4 (mL (mLstF (mCons (mC .non) (mCons (mTup mNil) (mCons (mC (.str "one")) (mCons (mL (mLstF (mCons (mTup (mCons (mC (.str "all")) (mCons (mTup mNil) mNil))) mNil))) (mCons (mTup (mCons (mTup (mCons (mC (.str "all")) (mCons (mTup (mCons (mC (.int 0)) mNil)) mNil))) mNil)) (mCons (mTup (mCons (mTup (mCons (mC (.str "tie")) (mCons (mC (.int 1)) (mCons (mC (.int 0)) mNil)))) mNil)) (mCons (mTup (mCons (mTup (mCons (mC (.str "tie")) (mCons (mC (.int 0)) (mCons (mC (.int 2)) mNil)))) mNil)) (mCons (mTup (mCons (mTup (mCons (mC (.str "colour")) (mCons (mC (.int 0)) (mCons (mC (.int 10)) mNil)))) mNil)) mNil)))))))))))
  (mSeq (mSet 4 (mBin fAdd (mVar 4) (mL (mLstF (mCons (mTup (mCons (mTup (mCons (mC (.str "least")) (mCons (mC (.int 0)) (mCons (mC (.int 0)) (mCons (mC (.int 0)) mNil))))) mNil)) (mCons (mTup (mCons (mTup (mCons (mC (.str "all")) (mCons (mTup mNil) mNil))) (mCons (mTup (mCons (mC (.str "least")) (mCons (mC (.int 100)) (mCons (mC (.int 0)) (mCons (mC (.int 0)) mNil))))) mNil))) mNil))))))
  (mSeq (mSet 4 (mBin fAdd (mVar 4) (mL (mLstF (mCons (mTup (mCons (mTup (mCons (mC (.str "all")) (mCons (mTup mNil) mNil))) (mCons (mTup (mCons (mC (.str "not")) (mCons (mC (.int 1)) mNil))) mNil))) (mCons (mTup (mCons (mTup (mCons (mC (.str "tie")) (mCons (mC (.int 0)) (mCons (mC (.int 1)) mNil)))) mNil)) mNil))))))
  (mSeq (mSet 4 (mCallP 2 (mFn 2 m_d75) (mCons (mBin fAdd (mVar 4) (mL (mLstF (mCons (mTup (mCons (mTup (mCons (mC (.str "one")) mNil)) mNil)) (mCons (mTup (mCons (mC (.str "all")) (mCons (mL (mLstF mNil)) mNil))) (mCons (mTup (mCons (mTup (mCons (mC (.str "all")) (mCons (mTup mNil) mNil))) (mCons (mTup (mCons (mC (.str "least")) (mCons (mC (.bl true)) (mCons (mC (.int 0)) (mCons (mC (.int 0)) mNil))))) mNil))) (mCons (mD mDnil) (mCons (mC (.int 5)) mNil)))))))) (mCons (mVar 0) mNil))))
  (mSeq (mSet 5 (mL (mLstF (mCons (mC .non) (mCons (mTup mNil) (mCons (mC (.str "one")) (mCons (mL (mLstF (mCons (mTup (mCons (mC (.str "one")) mNil)) mNil))) (mCons (mTup (mCons (mTup (mCons (mC (.str "glue")) (mCons (mC (.int 0)) (mCons (mC (.int 0)) mNil)))) mNil)) (mCons (mTup (mCons (mTup (mCons (mC (.str "tie")) (mCons (mC (.int 1)) (mCons (mC (.int 0)) mNil)))) mNil)) (mCons (mTup (mCons (mTup (mCons (mC (.str "tie")) (mCons (mC (.int 0)) (mCons (mC (.int 2)) mNil)))) mNil)) (mCons (mTup (mCons (mTup (mCons (mC (.str "colour")) (mCons (mC (.int 0)) (mCons (mC (.int 10)) mNil)))) mNil)) mNil)))))))))))
  (mSeq (mSet 5 (mBin fAdd (mVar 5) (mL (mLstF (mCons (mTup (mCons (mTup (mCons (mC (.str "one")) mNil)) (mCons (mTup (mCons (mC (.str "sum")) (mCons (mC (.int 0)) (mCons (mC (.int 0)) mNil)))) mNil))) (mCons (mTup (mCons (mTup (mCons (mC (.str "point")) (mCons (mC (.int 2)) mNil))) mNil)) (mCons (mTup (mCons (mTup (mCons (mC (.str "point")) (mCons (mC (.bl true)) mNil))) mNil)) mNil)))))))
  (mSeq (mSet 5 (mBin fAdd (mVar 5) (mL (mLstF (mCons (mTup (mCons (mTup (mCons (mC (.str "all")) (mCons (mTup mNil) mNil))) mNil)) (mCons (mTup (mCons (mTup (mCons (mC (.str "one")) (mCons (mC (.int 0)) mNil))) mNil)) (mCons (mTup (mCons (mC (.str "one")) mNil)) mNil)))))))
  (mSeq (mSet 5 (mCallP 2 (mFn 2 m_d75) (mCons (mBin fAdd (mVar 5) (mL (mLstF (mCons (mTup (mCons (mTup (mCons (mC (.str "colour")) (mCons (mC (.int 0)) (mCons (mUn fNeg (mC (.int 1))) mNil)))) mNil)) (mCons (mTup (mCons (mTup (mCons (mC (.str "point")) (mCons (mC (.int 0)) mNil))) (mCons (mTup (mCons (mC (.str "glue")) (mCons (mC (.int 0)) (mCons (mC (.int 1)) mNil)))) mNil))) (mCons (mD mDnil) (mCons (mC (.int 5)) mNil))))))) (mCons (mVar 0) mNil))))
  (mSeq (mSet 6 (mN (mLstF (mCons (mMet 2 5 metL metF (mCallP 1 (mFn 5 m_d64) (mCons (mVar 1) mNil))) mNil))))
  (mSeq (mExpr (mMt qAppend isLst (mVar 6) (mCons (mMet 2 5 metL metF (mCallP 1 (mFn 7 m_d67) (mCons (mVar 3) mNil))) mNil)))
  (mSeq (mSet 7 (mL (mLstF (mCons (mC (.str "web")) (mCons (mC (.str "line None")) mNil)))))
  (mSeq (mFor (mPick (mIT (mTup (mCons (mTup (mCons (mC (.glo 47)) (mCons (mVar 4) (mCons (mC (.str "sentence")) mNil)))) (mCons (mTup (mCons (mC (.glo 49)) (mCons (mVar 5) (mCons (mC (.str "recipe")) mNil)))) mNil)))) (mIL (mTup (mCons (mTup (mCons (mC (.glo 47)) (mCons (mVar 4) (mCons (mC (.str "sentence")) mNil)))) (mCons (mTup (mCons (mC (.glo 49)) (mCons (mVar 5) (mCons (mC (.str "recipe")) mNil)))) mNil))))) (gTupM 3 (gsCons (gN 8) (gsCons (gN 9) (gsCons (gN 10) gsNil))))
  (mSeq (mExpr (mMt qAppend isLst (mVar 6) (mCons (mMet 2 5 metL metF (mCallV 8 ((50, 2, mFn 8 m_d71) :: ((48, 2, mFn 8 m_d69) :: ((49, 2, mFn 3 m_d70) :: ((47, 2, mFn 3 m_d68) :: [])))) (mCons (mVar 2) (mCons (mVar 9) mNil)))) mNil)))
  (mSeq (mExpr (mMt qAppend isLst (mVar 6) (mCons (mMet 2 5 metL metF (mCallV 8 ((50, 2, mFn 8 m_d71) :: ((48, 2, mFn 8 m_d69) :: ((49, 2, mFn 3 m_d70) :: ((47, 2, mFn 3 m_d68) :: [])))) (mCons (mC (.int 1)) (mCons (mVar 9) mNil)))) mNil)))
  (mSet 7 (mBin fAdd (mVar 7) (mL (mLstF (mCons (mBin fAdd (mC (.str "number ")) (mCl fReprD (mCons (mVar 2) mNil))) (mCons (mVar 10) mNil)))))))))
  (mSeq (mFor (mPick (mIT (mTup (mCons (mC (.glo 48)) (mCons (mC (.glo 50)) mNil)))) (mIL (mTup (mCons (mC (.glo 48)) (mCons (mC (.glo 50)) mNil))))) (gN 8)
  (mSeq (mExpr (mMt qAppend isLst (mVar 6) (mCons (mMet 2 5 metL metF (mCallV 8 ((50, 2, mFn 8 m_d71) :: ((48, 2, mFn 8 m_d69) :: ((49, 2, mFn 3 m_d70) :: ((47, 2, mFn 3 m_d68) :: [])))) (mCons (mVar 2) (mCons (mVar 3) mNil)))) mNil)))
  (mSeq (mExpr (mMt qAppend isLst (mVar 6) (mCons (mMet 2 5 metL metF (mCallV 8 ((50, 2, mFn 8 m_d71) :: ((48, 2, mFn 8 m_d69) :: ((49, 2, mFn 3 m_d70) :: ((47, 2, mFn 3 m_d68) :: [])))) (mCons (mC (.int 1)) (mCons (mVar 3) mNil)))) mNil)))
  (mSet 7 (mBin fAdd (mVar 7) (mL (mLstF (mCons (mBin fAdd (mC (.str "number ")) (mCl fReprD (mCons (mVar 2) mNil))) (mCons (mC (.str "line None")) mNil)))))))))
  (mRet (mBin (orF fEqD (fEqI 5 (mFn 2 m_c19m5))) (mVar 6) (mVar 7)))))))))))))))))))
noncomputable abbrev s_d78 : Stmt := topS 78
theorem sc_d78 : FnScope ["some", "text", "at"] [] (defScope s_d78) := ⟨rfl, rfl, rfl, by decide +kernel, rfl, by decide +kernel, by decide +kernel⟩
noncomputable def m_d78 : MS := (mSeq (mSet 0 (mL (mLstF (mCons (mTup (mCons (mC (.str "")) (mCons (mC (.int 0)) mNil))) (mCons (mTup (mCons (mC (.str "web")) (mCons (mC (.int 0)) mNil))) (mCons (mTup (mCons (mC (.str "web -")) (mCons (mC (.int 0)) mNil))) (mCons (mTup (mCons (mC (.str "web \n")) (mCons (mC (.int 0)) mNil))) (mCons (mTup (mCons (mC (.str "web 0,10\n")) (mCons (mC (.int 0)) mNil))) (mCons (mTup (mCons (mC (.str "web 00\n")) (mCons (mC (.int 0)) mNil))) (mCons (mTup (mCons (mC (.str "web 0, 0\n")) (mCons (mC (.int 0)) mNil))) mNil))))))))))
  (mSeq (mSet 0 (mBin fAdd (mVar 0) (mL (mLstF (mCons (mTup (mCons (mC (.str "Web 0\n")) (mCons (mC (.int 0)) mNil))) (mCons (mTup (mCons (mC (.str "web 0,0\n0 1")) (mCons (mC (.int 1)) mNil))) (mCons (mTup (mCons (mC (.str "web 0,0\n0 0\n")) (mCons (mC (.int 1)) mNil))) mNil)))))))
  (mSeq (mSet 0 (mBin fAdd (mVar 0) (mL (mLstF (mCons (mTup (mCons (mC (.str "web 0,0\n1 0\n")) (mCons (mC (.int 1)) mNil))) (mCons (mTup (mCons (mC (.str "web 0,0\n0 2\n")) (mCons (mC (.int 1)) mNil))) mNil))))))
  (mSeq (mSet 0 (mBin fAdd (mVar 0) (mL (mLstF (mCons (mTup (mCons (mC (.str "web 0,0,0\n0 2,1\n")) (mCons (mC (.int 1)) mNil))) (mCons (mTup (mCons (mC (.str "web 0,0,0\n0 1\n0 2\n")) (mCons (mC (.int 2)) mNil))) mNil))))))
  (mSeq (mSet 0 (mBin fAdd (mVar 0) (mL (mLstF (mCons (mTup (mCons (mC (.str "web 0,0,0\n0 1,1\n")) (mCons (mC (.int 1)) mNil))) (mCons (mTup (mCons (mC (.str "web 0\n0 -\n")) (mCons (mC (.int 1)) mNil))) mNil))))))
  (mSeq (mSet 0 (mBin fAdd (mVar 0) (mL (mLstF (mCons (mTup (mCons (mC (.str "web 0,0\n\n")) (mCons (mC (.int 1)) mNil))) (mCons (mTup (mCons (mC (.str "web 0,0\n0 1\n\n")) (mCons (mC (.int 2)) mNil))) (mCons (mTup (mCons (mC (.str "web -0\n")) (mCons (mC (.int 0)) mNil))) mNil)))))))
  (mSeq (mSet 0 (mBin fAdd (mVar 0) (mL (mLstF (mCons (mTup (mCons (mC (.str "web 0,0\n0 1 \n")) (mCons (mC (.int 1)) mNil))) (mCons (mTup (mCons (mC (.str "web 0,0\n0  1\n")) (mCons (mC (.int 1)) mNil))) mNil))))))
  (mSeq (mSet 0 (mBin fAdd (mVar 0) (mL (mLstF (mCons (mTup (mCons (mBin fAdd (mBin fAdd (mC (.str "web ")) (mJoin (mC (.str ",")) (mL (mRepF (mLstF (mCons (mC (.str "0")) mNil)) (mC (.int 41)))))) (mC (.str "\n"))) (mCons (mC (.int 0)) mNil))) (mCons (mTup (mCons (mC (.str "web 0,0\n+0 1\n")) (mCons (mC (.int 1)) mNil))) mNil))))))
  (mSeq (mSet 0 (mBin fAdd (mVar 0) (mL (mLstF (mCons (mTup (mCons (mC (.str "web -2\n")) (mCons (mC (.int 0)) mNil))) (mCons (mTup (mCons (mC (.str "web 1000000000\n")) (mCons (mC (.int 0)) mNil))) mNil))))))
  (mRet (mBin fEqD (mL (mLc (mPick (mPick (mIT (mVar 0)) (mIL (mVar 0))) (mIS (mVar 0))) (gTupM 2 (gsCons (gN 1) (gsCons (gN 2) gsNil))) (mTb (mBin fNeD (mMet 2 5 metL metF (mCallP 1 (mFn 7 m_d67) (mCons (mVar 1) mNil))) (mBin fAdd (mC (.str "line ")) (mCl fReprD (mCons (mVar 2) mNil))))) (mVar 1) [1, 2])) (mL (mLstF mNil)))))))))))))
noncomputable abbrev s_d79 : Stmt := topS 79
theorem sc_d79 : FnScope ["script", "spot", "shift", "turn", "some", "text", "at"] ["script"] (defScope s_d79) := ⟨rfl, rfl, rfl, by decide +kernel, rfl, by decide +kernel, by decide +kernel⟩
noncomputable def m_d79 : MS := (mSeq (mFor (mIR1 (mCons (mCl cMax2 (mCons (mC (.int 1)) (mCons (mCl cMin2 (mCons (mC (.int 2)) (mCons (mCl (orC cLen (cLenI 5 (mFn 1 m_c19m3))) (mCons (mVar 0) mNil)) mNil))) mNil))) mNil)) (gN 1)
  (mSeq (mSet 2 (mTr0 (mCall 2 (mFn 5 m_d74) (mCons (mCall 2 (mFn 4 m_d73) (mCons (mVar 0) (mCons (mVar 1) mNil))) (mCons (mC (.int 1000)) mNil)))))
  (mFor (mIR1 (mCons (mC (.int 18)) mNil)) (gN 3)
  (mIfS (mNotT (mTb (mCallP 1 (mFn 11 m_d77) (mCons (mBin fAdd (mVar 2) (mVar 3)) mNil))))
  (mRet (mC (.bl false)))
  mPass))))
  (mSeq (mSet 4 (mN (mLstF (mCons (mTup (mCons (mC (.str "")) (mCons (mC (.int 0)) mNil))) (mCons (mTup (mCons (mC (.str "tie 0 1\n")) (mCons (mC (.int 1)) mNil))) (mCons (mTup (mCons (mC (.str "all -\nnot 1\n")) (mCons (mC (.int 1)) mNil))) (mCons (mTup (mCons (mC (.str "all -\nnot 0")) (mCons (mC (.int 1)) mNil))) (mCons (mTup (mCons (mC (.str "all 0\n")) (mCons (mC (.int 0)) mNil))) mNil))))))))
  (mSeq (mExpr (mMt qAppend isLst (mVar 4) (mCons (mTup (mCons (mC (.str "all -\nleast 0 0 0\n")) (mCons (mC (.int 1)) mNil))) mNil)))
  (mSeq (mSet 4 (mN (mBinF fCatL (mVar 4) (mL (mLstF (mCons (mTup (mCons (mC (.str "all\n")) (mCons (mC (.int 0)) mNil))) (mCons (mTup (mCons (mC (.str "all -\nleast 1 2 0\n")) (mCons (mC (.int 1)) mNil))) (mCons (mTup (mCons (mC (.str "one\n")) (mCons (mC (.int 0)) mNil))) (mCons (mTup (mCons (mC (.str "all -,0\n")) (mCons (mC (.int 0)) mNil))) (mCons (mTup (mCons (mC (.str "all -\nall 0,00\n")) (mCons (mC (.int 1)) mNil))) mNil))))))))))
  (mSeq (mSet 4 (mN (mBinF fCatL (mVar 4) (mL (mLstF (mCons (mTup (mCons (mBin fAdd (mBin fRepS (mC (.str "all -\n")) (mC (.int 2000))) (mC (.str "all -\n"))) (mCons (mC (.int 2000)) mNil))) (mCons (mTup (mCons (mC (.str "all -\nnot -0\n")) (mCons (mC (.int 1)) mNil))) (mCons (mTup (mCons (mC (.str "all -\nnot 0\ntie 0 1\nsome 2\n")) (mCons (mC (.int 4)) mNil))) mNil))))))))
  (mSeq (mIfS (mTb (mBin fNeD (mL (mLc (mPick (mIT (mVar 4)) (mIL (mVar 4))) (gTupM 2 (gsCons (gN 5) (gsCons (gN 6) gsNil))) (mTb (mBin fNeD (mMet 2 5 metL metF (mCallP 2 (mFn 8 m_d69) (mCons (mC (.int 1)) (mCons (mVar 5) mNil)))) (mBin fAdd (mC (.str "line ")) (mCl fReprD (mCons (mVar 6) mNil))))) (mVar 5) [5, 6])) (mL (mLstF mNil))))
  (mRet (mC (.bl false)))
  mPass)
  (mSeq (mSet 4 (mN (mLstF (mCons (mTup (mCons (mC (.str "")) (mCons (mC (.int 0)) mNil))) (mCons (mTup (mCons (mC (.str "one\nsum 0 0\n")) (mCons (mC (.int 1)) mNil))) (mCons (mTup (mCons (mC (.str "point 2\n")) (mCons (mC (.int 0)) mNil))) (mCons (mTup (mCons (mC (.str "one\nglue 0 1\n")) (mCons (mC (.int 1)) mNil))) (mCons (mTup (mCons (mC (.str "one 0\n")) (mCons (mC (.int 0)) mNil))) mNil))))))))
  (mSeq (mExpr (mMt qAppend isLst (mVar 4) (mCons (mTup (mCons (mC (.str "colour 0 -1\n")) (mCons (mC (.int 0)) mNil))) mNil)))
  (mSeq (mSet 4 (mN (mBinF fCatL (mVar 4) (mL (mLstF (mCons (mTup (mCons (mC (.str "one\none")) (mCons (mC (.int 1)) mNil))) (mCons (mTup (mCons (mC (.str "point 0\nsum 1 0\n")) (mCons (mC (.int 1)) mNil))) (mCons (mTup (mCons (mC (.str "one \n")) (mCons (mC (.int 0)) mNil))) (mCons (mTup (mCons (mC (.str " one\n")) (mCons (mC (.int 0)) mNil))) (mCons (mTup (mCons (mBin fRepS (mC (.str "one\n")) (mC (.int 2001))) (mCons (mC (.int 2000)) mNil))) mNil))))))))))
  (mSeq (mIfS (mTb (mBin fNeD (mL (mLc (mPick (mIT (mVar 4)) (mIL (mVar 4))) (gTupM 2 (gsCons (gN 5) (gsCons (gN 6) gsNil))) (mTb (mBin fNeD (mMet 2 5 metL metF (mCallP 2 (mFn 8 m_d71) (mCons (mC (.int 1)) (mCons (mVar 5) mNil)))) (mBin fAdd (mC (.str "line ")) (mCl fReprD (mCons (mVar 6) mNil))))) (mVar 5) [5, 6])) (mL (mLstF mNil))))
  (mRet (mC (.bl false)))
  mPass)
  (mRet (mAndV (mCallP 0 (mFn 3 m_d78) mNil) (mBin fEqD (mMet 2 5 metL metF (mCallP 2 (mFn 8 m_d71) (mCons (mC (.int 1)) (mCons (mBin fRepS (mC (.str "one\n")) (mC (.int 2000))) mNil)))) (mC (.str "fine")))))))))))))))
noncomputable abbrev s_c19m2 : Stmt := inClass (topS 19) 2
noncomputable abbrev s_c19m4 : Stmt := inClass (topS 19) 4
noncomputable abbrev s_d76 : Stmt := topS 76
theorem sc_d76 : FnScope ["call", "error"] ["call"] (defScope s_d76) := ⟨rfl, rfl, rfl, by decide +kernel, rfl, by decide +kernel, by decide +kernel⟩
structure Fx (P : Program) (w : World) (K : PySem.W.Frag) (mg : Str → Option Value) (base : Heap) (T : Tx) (ad : Nat → Addr) (fd : Nat → FuncData) (cv : Nat → Value) (bm : List Value) : Prop where
  apart : Apart T 5
  b_abs : mg "abs" = none
  b_all : mg "all" = none
  b_enumerate : mg "enumerate" = none
  b_int : mg "int" = none
  b_isinstance : mg "isinstance" = none
  b_len : mg "len" = none
  b_list : mg "list" = none
  b_max : mg "max" = none
  b_min : mg "min" = none
  b_range : mg "range" = none
  b_repr : mg "repr" = none
  b_set : mg "set" = none
  b_sorted : mg "sorted" = none
  b_str : mg "str" = none
  b_tuple : mg "tuple" = none
  b_type : mg "type" = none
  cN : T.cN = cNm
  cls5 : Cls K (T.cA 5)
  co__law_right : (fd 45).code = .ref (ad 51)
  co__law_webs_right : (fd 46).code = .ref (ad 53)
  co_law : (fd 47).code = .ref (ad 55)
  d_c19m0 : Binds K (fd 36) ["self", "colours", "ties"] []
  d_c19m1 : Binds K (fd 32) ["self", "point"] []
  d_c19m3 : Binds K (fd 2) ["self"] []
  d_c19m5 : Binds K (fd 15) ["self", "other"] []
  d_d10 : Binds K (fd 1) ["value", "low", "high"] []
  d_d11 : Binds K (fd 3) ["members"] []
  d_d16 : Binds K (fd 4) ["value"] []
  d_d17 : Binds K (fd 5) ["value", "many"] []
  d_d18 : Binds K (fd 6) ["many", "ties"] []
  d_d20 : Binds K (fd 7) ["web"] []
  d_d21 : Binds K (fd 8) ["web", "point"] []
  d_d24 : Binds K (fd 9) ["k"] []
  d_d31 : Binds K (fd 10) ["low", "high", "k"] []
  d_d32 : Binds K (fd 11) ["k", "line"] []
  d_d33 : Binds K (fd 12) ["within", "ahead"] []
  d_d34 : Binds K (fd 13) ["k", "line", "ahead"] []
  d_d35 : Binds K (fd 14) ["k", "line", "ahead"] []
  d_d36 : Binds K (fd 16) ["k", "value"] []
  d_d37 : Binds K (fd 17) ["k", "value"] []
  d_d38 : Binds K (fd 18) ["k", "sentence"] []
  d_d43 : Binds K (fd 19) ["word"] []
  d_d44 : Binds K (fd 20) ["word"] []
  d_d45 : Binds K (fd 21) ["numbers"] []
  d_d46 : Binds K (fd 22) ["member"] []
  d_d47 : Binds K (fd 23) ["members"] []
  d_d52 : Binds K (fd 24) ["value"] []
  d_d53 : Binds K (fd 25) ["k", "line"] []
  d_d54 : Binds K (fd 26) ["k", "line", "ahead"] []
  d_d55 : Binds K (fd 27) ["k", "lines"] []
  d_d58 : Binds K (fd 28) ["k", "value"] []
  d_d59 : Binds K (fd 29) ["recipe", "k"] []
  d_d62 : Binds K (fd 30) ["text"] []
  d_d63 : Binds K (fd 31) ["line"] []
  d_d64 : Binds K (fd 33) ["web"] []
  d_d65 : Binds K (fd 34) ["line"] []
  d_d66 : Binds K (fd 35) ["line", "least", "many"] []
  d_d67 : Binds K (fd 37) ["text"] []
  d_d68 : Binds K (fd 38) ["k", "sentence"] []
  d_d69 : Binds K (fd 39) ["k", "text"] []
  d_d70 : Binds K (fd 40) ["k", "recipe"] []
  d_d71 : Binds K (fd 41) ["k", "text"] []
  d_d73 : Binds K (fd 42) ["script", "spot"] []
  d_d74 : Binds K (fd 43) ["hat", "total"] []
  d_d75 : Binds K (fd 44) ["items", "turn"] []
  d_d76 : Binds K (fd 50) ["call"] []
  d_d77 : Binds K (fd 45) ["turn"] []
  d_d78 : Binds K (fd 46) [] []
  d_d9 : Binds K (fd 0) ["value", "low", "high"] []
  d_i3 : Binds K (fd 57) ["self", "given"] []
  d_i4 : Binds K (fd 58) ["self", "at"] []
  e3 : ExF K (T.cA 3) "given"
  e4 : ExF K (T.cA 4) "at"
  eqm5 : Meth K (T.cA 5) "__eq__" (ad 15)
  ex : T.ex = none
  f_c19m0 : Fun K "__init__" "Web.__init__" s_c19m0 (ad 36) (fd 36)
  f_c19m1 : Fun K "near" "Web.near" s_c19m1 (ad 32) (fd 32)
  f_c19m2 : Fun K "is_tied" "Web.is_tied" s_c19m2 (ad 48) (fd 48)
  f_c19m3 : Fun K "__len__" "Web.__len__" s_c19m3 (ad 2) (fd 2)
  f_c19m4 : Fun K "__contains__" "Web.__contains__" s_c19m4 (ad 49) (fd 49)
  f_c19m5 : Fun K "__eq__" "Web.__eq__" s_c19m5 (ad 15) (fd 15)
  f_d10 : Fun K "are_between" "are_between" s_d10 (ad 1) (fd 1)
  f_d11 : Fun K "is_ascending" "is_ascending" s_d11 (ad 3) (fd 3)
  f_d16 : Fun K "are_colours" "are_colours" s_d16 (ad 4) (fd 4)
  f_d17 : Fun K "are_ties" "are_ties" s_d17 (ad 5) (fd 5)
  f_d18 : Fun K "near_points" "near_points" s_d18 (ad 6) (fd 6)
  f_d20 : Fun K "check_web" "check_web" s_d20 (ad 7) (fd 7)
  f_d21 : Fun K "check_point" "check_point" s_d21 (ad 8) (fd 8)
  f_d24 : Fun K "check_k" "check_k" s_d24 (ad 9) (fd 9)
  f_d31 : Fun K "bits_of_two" "bits_of_two" s_d31 (ad 10) (fd 10)
  f_d32 : Fun K "bits_of_coloured" "bits_of_coloured" s_d32 (ad 11) (fd 11)
  f_d33 : Fun K "bits_of_many" "bits_of_many" s_d33 (ad 12) (fd 12)
  f_d34 : Fun K "bits_of_least" "bits_of_least" s_d34 (ad 13) (fd 13)
  f_d35 : Fun K "bits_of_line" "bits_of_line" s_d35 (ad 14) (fd 14)
  f_d36 : Fun K "bits_of_lines" "bits_of_lines" s_d36 (ad 16) (fd 16)
  f_d37 : Fun K "is_sentence_of" "is_sentence_of" s_d37 (ad 17) (fd 17)
  f_d38 : Fun K "check_sentence" "check_sentence" s_d38 (ad 18) (fd 18)
  f_d43 : Fun K "number_in" "number_in" s_d43 (ad 19) (fd 19)
  f_d44 : Fun K "lot_in" "lot_in" s_d44 (ad 20) (fd 20)
  f_d45 : Fun K "lot_text" "lot_text" s_d45 (ad 21) (fd 21)
  f_d46 : Fun K "member_text" "member_text" s_d46 (ad 22) (fd 22)
  f_d47 : Fun K "line_text" "line_text" s_d47 (ad 23) (fd 23)
  f_d52 : Fun K "is_like_line" "is_like_line" s_d52 (ad 24) (fd 24)
  f_d53 : Fun K "places_of_first" "places_of_first" s_d53 (ad 25) (fd 25)
  f_d54 : Fun K "places_of_line" "places_of_line" s_d54 (ad 26) (fd 26)
  f_d55 : Fun K "places_of" "places_of" s_d55 (ad 27) (fd 27)
  f_d58 : Fun K "places_open" "places_open" s_d58 (ad 28) (fd 28)
  f_d59 : Fun K "places_checked" "places_checked" s_d59 (ad 29) (fd 29)
  f_d62 : Fun K "lines_in" "lines_in" s_d62 (ad 30) (fd 30)
  f_d63 : Fun K "line_in" "line_in" s_d63 (ad 31) (fd 31)
  f_d64 : Fun K "web_text" "web_text" s_d64 (ad 33) (fd 33)
  f_d65 : Fun K "colours_in" "colours_in" s_d65 (ad 34) (fd 34)
  f_d66 : Fun K "ties_in" "ties_in" s_d66 (ad 35) (fd 35)
  f_d67 : Fun K "read_web" "read_web" s_d67 (ad 37) (fd 37)
  f_d68 : Fun K "sentence_text" "sentence_text" s_d68 (ad 38) (fd 38)
  f_d69 : Fun K "read_sentence" "read_sentence" s_d69 (ad 39) (fd 39)
  f_d70 : Fun K "recipe_text" "recipe_text" s_d70 (ad 40) (fd 40)
  f_d71 : Fun K "read_recipe" "read_recipe" s_d71 (ad 41) (fd 41)
  f_d73 : Fun K "_law_fa_hat" "_law_fa_hat" s_d73 (ad 42) (fd 42)
  f_d74 : Fun K "_law_fa_up" "_law_fa_up" s_d74 (ad 43) (fd 43)
  f_d75 : Fun K "_law_fa_turned" "_law_fa_turned" s_d75 (ad 44) (fd 44)
  f_d76 : Fun K "_law_met" "_law_met" s_d76 (ad 50) (fd 50)
  f_d77 : Fun K "_law_right" "_law_right" s_d77 (ad 45) (fd 45)
  f_d78 : Fun K "_law_webs_right" "_law_webs_right" s_d78 (ad 46) (fd 46)
  f_d79 : Fun K "law" "law" s_d79 (ad 47) (fd 47)
  f_d9 : Fun K "is_between" "is_between" s_d9 (ad 0) (fd 0)
  g_LENGTHS_lines : T.g 59 = .ref (ad 60)
  g_LENGTHS_sentences : T.g 58 = .ref (ad 59)
  g_Web : T.g 12 = .ref (T.cA 5)
  g_read_recipe : T.g 50 = .ref (ad 41)
  g_read_sentence : T.g 48 = .ref (ad 39)
  g_recipe_text : T.g 49 = .ref (ad 40)
  g_sentence_text : T.g 47 = .ref (ad 38)
  g_str : T.g 5 = .ty "str"
  g_tuple : T.g 2 = .ty "tuple"
  i3 : PySem.W.findIn K (.ref (T.cA 3)) "__init__" = some (some (.ref (ad 57)))
  i4 : PySem.W.findIn K (.ref (T.cA 4)) "__init__" = some (some (.ref (ad 58)))
  isi : ∀ {X : Cx}, X.K = K → IsiOk X T isF
  k : K = T.K
  k0 : PySem.W.keepIn K (.ref (T.cA 0)) = true
  k1 : PySem.W.keepIn K (.ref (T.cA 1)) = true
  k2 : PySem.W.keepIn K (.ref (T.cA 2)) = true
  ktab_LENGTHS_lines : KTab K w (ad 60) [("one", 1), ("point", 2), ("tie", 3), ("same", 3), ("colour", 3), ("glue", 3), ("sum", 3)]
  ktab_LENGTHS_sentences : KTab K w (ad 59) [("tie", 3), ("same", 3), ("colour", 3), ("not", 2), ("all", 2), ("some", 2), ("least", 4)]
  len5 : Meth K (T.cA 5) "__len__" (ad 2)
  me_c19m1 : Meth K (T.cA 5) "near" (ad 32)
  mk5 : L2.Mk K (T.cA 5) (ad 36)
  n_DIGITS : mg "DIGITS" = some (cv 8)
  n_GREATEST_COLOUR : mg "GREATEST_COLOUR" = some (cv 2)
  n_GREATEST_K : mg "GREATEST_K" = some (cv 3)
  n_GREATEST_PASSED : mg "GREATEST_PASSED" = some (cv 12)
  n_InvalidNumber : mg "InvalidNumber" = some (.ref (T.cA 3))
  n_InvalidRecipe : mg "InvalidRecipe" = some (.ref (T.cA 1))
  n_InvalidSentence : mg "InvalidSentence" = some (.ref (T.cA 2))
  n_InvalidWeb : mg "InvalidWeb" = some (.ref (T.cA 0))
  n_LEAST_COLOUR : mg "LEAST_COLOUR" = some (cv 1)
  n_LENGTHS_lines : mg "LENGTHS_lines" = some (.ref (ad 60))
  n_LENGTHS_sentences : mg "LENGTHS_sentences" = some (.ref (ad 59))
  n_LOTS : mg "LOTS" = some (cv 14)
  n_MADE_OF_NONE : mg "MADE_OF_NONE" = some (cv 7)
  n_MOST_COLOUR : mg "MOST_COLOUR" = some (cv 11)
  n_MOST_DIGITS : mg "MOST_DIGITS" = some (cv 9)
  n_MOST_LEAST : mg "MOST_LEAST" = some (cv 5)
  n_MOST_LINES_recipes : mg "MOST_LINES_recipes" = some (cv 13)
  n_MOST_LINES_sentences : mg "MOST_LINES_sentences" = some (cv 4)
  n_MOST_POINTS : mg "MOST_POINTS" = some (cv 0)
  n_MOST_WITHIN : mg "MOST_WITHIN" = some (cv 6)
  n_NO_LOT : mg "NO_LOT" = some (cv 10)
  n_ParseError : mg "ParseError" = some (.ref (T.cA 4))
  n_Web : mg "Web" = some (.ref (T.cA 5))
  n__law_fa_hat : mg "_law_fa_hat" = some (.ref (ad 42))
  n__law_fa_turned : mg "_law_fa_turned" = some (.ref (ad 44))
  n__law_fa_up : mg "_law_fa_up" = some (.ref (ad 43))
  n__law_met : mg "_law_met" = some (.ref (ad 50))
  n__law_right : mg "_law_right" = some (.ref (ad 45))
  n__law_webs_right : mg "_law_webs_right" = some (.ref (ad 46))
  n_are_between : mg "are_between" = some (.ref (ad 1))
  n_are_colours : mg "are_colours" = some (.ref (ad 4))
  n_are_ties : mg "are_ties" = some (.ref (ad 5))
  n_bits_of_coloured : mg "bits_of_coloured" = some (.ref (ad 11))
  n_bits_of_least : mg "bits_of_least" = some (.ref (ad 13))
  n_bits_of_line : mg "bits_of_line" = some (.ref (ad 14))
  n_bits_of_lines : mg "bits_of_lines" = some (.ref (ad 16))
  n_bits_of_many : mg "bits_of_many" = some (.ref (ad 12))
  n_bits_of_two : mg "bits_of_two" = some (.ref (ad 10))
  n_check_k : mg "check_k" = some (.ref (ad 9))
  n_check_point : mg "check_point" = some (.ref (ad 8))
  n_check_sentence : mg "check_sentence" = some (.ref (ad 18))
  n_check_web : mg "check_web" = some (.ref (ad 7))
  n_colours_in : mg "colours_in" = some (.ref (ad 34))
  n_is_ascending : mg "is_ascending" = some (.ref (ad 3))
  n_is_between : mg "is_between" = some (.ref (ad 0))
  n_is_like_line : mg "is_like_line" = some (.ref (ad 24))
  n_is_sentence_of : mg "is_sentence_of" = some (.ref (ad 17))
  n_line_in : mg "line_in" = some (.ref (ad 31))
  n_line_text : mg "line_text" = some (.ref (ad 23))
  n_lines_in : mg "lines_in" = some (.ref (ad 30))
  n_lot_in : mg "lot_in" = some (.ref (ad 20))
  n_lot_text : mg "lot_text" = some (.ref (ad 21))
  n_member_text : mg "member_text" = some (.ref (ad 22))
  n_near_points : mg "near_points" = some (.ref (ad 6))
  n_number_in : mg "number_in" = some (.ref (ad 19))
  n_places_checked : mg "places_checked" = some (.ref (ad 29))
  n_places_of : mg "places_of" = some (.ref (ad 27))
  n_places_of_first : mg "places_of_first" = some (.ref (ad 25))
  n_places_of_line : mg "places_of_line" = some (.ref (ad 26))
  n_places_open : mg "places_open" = some (.ref (ad 28))
  n_read_recipe : mg "read_recipe" = some (.ref (ad 41))
  n_read_sentence : mg "read_sentence" = some (.ref (ad 39))
  n_read_web : mg "read_web" = some (.ref (ad 37))
  n_recipe_text : mg "recipe_text" = some (.ref (ad 40))
  n_sentence_text : mg "sentence_text" = some (.ref (ad 38))
  n_ties_in : mg "ties_in" = some (.ref (ad 35))
  n_web_text : mg "web_text" = some (.ref (ad 33))
  na5__near : NoAttr K (T.cA 5) "_near"
  na5_colours : NoAttr K (T.cA 5) "colours"
  na5_degrees : NoAttr K (T.cA 5) "degrees"
  na5_ties : NoAttr K (T.cA 5) "ties"
  o3 : OexC K (T.cA 3)
  o4 : OexC K (T.cA 4)
  ok_i3 : FnOk P w K mg base (L2.CX P w) 2 (ad 57) (fd 57) ["self", "given"] (spI (T.cA 3) "given")
  ok_i4 : FnOk P w K mg base (L2.CX P w) 2 (ad 58) (fd 58) ["self", "at"] (spI (T.cA 4) "at")
  rs0 : ∀ {X : Cx}, X.K = K → Raises X (.ref (T.cA 0))
  rs1 : ∀ {X : Cx}, X.K = K → Raises X (.ref (T.cA 1))
  rs2 : ∀ {X : Cx}, X.K = K → Raises X (.ref (T.cA 2))
  t3 : PySem.W.typeIn K (.ref (ad 57)) = some (.type "function")
  t4 : PySem.W.typeIn K (.ref (ad 58)) = some (.type "function")
  tb : T.tb = [(ad 52, (("_law_right" : Str) ++ ".<locals>.") ++ "<lambda>"), (ad 54, (("_law_webs_right" : Str) ++ ".<locals>.") ++ "<lambda>"), (ad 56, (("law" : Str) ++ ".<locals>.") ++ "<lambda>")]
  tne0_1 : ad 52 ≠ ad 54
  tne0_2 : ad 52 ≠ ad 56
  tne1_2 : ad 54 ≠ ad 56
  tyo : TyOwn T iOwn
  v_DIGITS : ∃ v, RelV v (cv 8) ∧ ∀ av r H, RV T av r H (.str "0123456789") v
  v_GREATEST_COLOUR : RelV (.int (9)) (cv 2)
  v_GREATEST_K : RelV (.int (3)) (cv 3)
  v_GREATEST_PASSED : RelV (.int (999999999)) (cv 12)
  v_LEAST_COLOUR : RelV (.int (-1)) (cv 1)
  v_LOTS : ∃ v, RelV v (cv 14) ∧ ∀ av r H, RV T av r H (.tup [(.str "all"), (.str "some")]) v
  v_MADE_OF_NONE : ∃ v, RelV v (cv 7) ∧ ∀ av r H, RV T av r H (.tup [(.tup [(.str "all"), (.tup [])]), (.tup [(.str "some"), (.tup [])])]) v
  v_MOST_COLOUR : RelV (.int (9)) (cv 11)
  v_MOST_DIGITS : RelV (.int (9)) (cv 9)
  v_MOST_LEAST : RelV (.int (99)) (cv 5)
  v_MOST_LINES_recipes : RelV (.int (2000)) (cv 13)
  v_MOST_LINES_sentences : RelV (.int (2000)) (cv 4)
  v_MOST_POINTS : RelV (.int (40)) (cv 0)
  v_MOST_WITHIN : RelV (.int (40)) (cv 6)
  v_NO_LOT : ∃ v, RelV v (cv 10) ∧ ∀ av r H, RV T av r H (.str "-") v
  x0 : PySem.W.excIn K (T.cA 0) [.type "ValueError", .type "Exception", .type "BaseException", .type "object"] "ValueError.__new__" = true
  x1 : PySem.W.excIn K (T.cA 1) [.type "ValueError", .type "Exception", .type "BaseException", .type "object"] "ValueError.__new__" = true
  x2 : PySem.W.excIn K (T.cA 2) [.type "ValueError", .type "Exception", .type "BaseException", .type "object"] "ValueError.__new__" = true

section
variable {P : Program} {w : World} {K : PySem.W.Frag} {mg : Str → Option Value} {base : Heap} {T : Tx} {ad : Nat → Addr} {fd : Nat → FuncData} {cv : Nat → Value} {bm : List Value}
theorem ok_d9 (Z : Fx P w K mg base T ad fd cv bm) : FnOk P w K mg base (L2.CX P w) 1 (ad 0) (fd 0) ["value", "low", "high"] (spM T 3 (mFn 3 m_d9)) :=
  fn_mk Z.f_d9 sc_d9 fun cdv A outer s H E hr => (sb_one (ss_ret (se_and (se_tyEq (g := 2) Z.k hr.u1 Z.tyo (by rfl) Z.b_type (by rfl) (by rfl) Z.b_int (by rfl) (se_var 0)) (se_one (se_chain om_leI om_leI (se_var 1) (se_var 0) (se_var 2))))))
theorem ok_d10 (Z : Fx P w K mg base T ad fd cv bm) : FnOk P w K mg base (L2.CX P w) 1 (ad 1) (fd 1) ["value", "low", "high"] (spM T 3 (mFn 4 m_d10)) :=
  fn_mk Z.f_d10 sc_d10 fun cdv A outer s H E hr => (sb_cons (ss_if (st_not (st_val (se_callB (cm_isi Z.k (Z.isi rfl)) (by rfl) Z.b_isinstance (by rfl) (sa_cons (se_var 0) (sa_cons (se_glob 2 (by rfl) Z.b_tuple (by rfl) (by rw [Z.g_tuple]; rfl)) sa_nil)))))
  (sb_one (ss_ret se_bl))
  sb_nil)
  (sb_cons (ss_for (passes_of rfl) rfl (si_pick (si_pick (si_tup Z.k (se_var 0)) (si_lst (se_var 0))) (si_str (se_var 0))) (sg_name 3 sc_d10.nd rfl (by first | exact Or.inl rfl | exact Or.inr rfl))
  (sb_one (ss_if ((sw_or (st_tyNe (g := 2) Z.k hr.u1 Z.tyo (by rfl) Z.b_type (by rfl) (by rfl) Z.b_int (by rfl) (se_var 3)) (sw_or1 (st_not (st_chain om_leI om_leI (se_var 1) (se_var 3) (se_var 2)))))).t
  (sb_one (ss_ret se_bl))
  sb_nil)))
  (sb_one (ss_ret se_bl))))
theorem ok_c19m3 (Z : Fx P w K mg base T ad fd cv bm) : FnOk P w K mg base (L2.CX P w) 1 (ad 2) (fd 2) ["self"] (spM T 1 (mFn 1 m_c19m3)) :=
  fn_mk Z.f_c19m3 sc_c19m3 fun cdv A outer s H E hr => (sb_one (ss_ret (se_callB ((cm_len Z.k).or cm_lenS) (by rfl) Z.b_len (by rfl) (sa_cons (se_fld 5 0 Z.cls5 Z.na5_colours (by rw [Z.cN]; decide) (by rw [Z.cN]; rfl) (se_var 0)) sa_nil))))
theorem ok_d11 (Z : Fx P w K mg base T ad fd cv bm) : FnOk P w K mg base (L2.CX P w) 3 (ad 3) (fd 3) ["members"] (spM T 1 (mFn 2 m_d11)) :=
  fn_mk Z.f_d11 sc_d11 fun cdv A outer s H E hr => (sb_cons (ss_for (passes_of rfl) rfl (si_range2 (by rfl) Z.b_range (sa_cons se_int (sa_cons (se_callB (((cm_len Z.k).or (cm_lenI (by rw [Z.cN]; decide) Z.len5 ((ok_c19m3 Z).mono (by decide)) hr Z.d_c19m3)).or cm_lenS) (by rfl) Z.b_len (by rfl) (sa_cons (se_var 0) sa_nil)) sa_nil))) (sg_name 1 sc_d11.nd rfl (by first | exact Or.inl rfl | exact Or.inr rfl))
  (sb_one (ss_if (st_not (st_cmp (om_ltI.or (om_ltT Z.k hr.u0)) (se_pick (se_pick (se_ix (im_seq Z.k) (se_var 0) (se_bin om_subI (se_var 1) se_int)) (se_get (hr.u1) (se_var 0) (se_bin om_subI (se_var 1) se_int) (fun _ _ => rfl))) (se_ix im_str (se_var 0) (se_bin om_subI (se_var 1) se_int))) (se_pick (se_pick (se_ix (im_seq Z.k) (se_var 0) (se_var 1)) (se_get (hr.u1) (se_var 0) (se_var 1) (fun _ _ => rfl))) (se_ix im_str (se_var 0) (se_var 1))) (nomark _)))
  (sb_one (ss_ret se_bl))
  sb_nil)))
  (sb_one (ss_ret se_bl)))
theorem ok_d16 (Z : Fx P w K mg base T ad fd cv bm) : FnOk P w K mg base (L2.CX P w) 2 (ad 4) (fd 4) ["value"] (spM T 1 (mFn 1 m_d16)) :=
  fn_mk Z.f_d16 sc_d16 fun cdv A outer s H E hr => (sb_one (ss_ret (se_callP ((ok_d10 Z).mono (by decide)) hr (by rfl) Z.n_are_between Z.f_d10.kp Z.d_d10 (takes_of rfl rfl rfl rfl) (sa_cons (se_var 0) (sa_cons (se_gint (by rfl) Z.n_LEAST_COLOUR Z.v_LEAST_COLOUR) (sa_cons (se_gint (by rfl) Z.n_GREATEST_COLOUR Z.v_GREATEST_COLOUR) sa_nil))))))
theorem ok_d17 (Z : Fx P w K mg base T ad fd cv bm) : FnOk P w K mg base (L2.CX P w) 4 (ad 5) (fd 5) ["value", "many"] (spM T 2 (mFn 3 m_d17)) :=
  fn_mk Z.f_d17 sc_d17 fun cdv A outer s H E hr => (sb_cons (ss_if (st_not (st_val (se_callB (cm_isi Z.k (Z.isi rfl)) (by rfl) Z.b_isinstance (by rfl) (sa_cons (se_var 0) (sa_cons (se_glob 2 (by rfl) Z.b_tuple (by rfl) (by rw [Z.g_tuple]; rfl)) sa_nil)))))
  (sb_one (ss_ret se_bl))
  sb_nil)
  (sb_cons (ss_for (passes_of rfl) rfl (si_pick (si_pick (si_tup Z.k (se_var 0)) (si_lst (se_var 0))) (si_str (se_var 0))) (sg_name 2 sc_d17.nd rfl (by first | exact Or.inl rfl | exact Or.inr rfl))
  (sb_one (ss_if ((sw_or (st_not (st_val (se_callP ((ok_d10 Z).mono (by decide)) hr (by rfl) Z.n_are_between Z.f_d10.kp Z.d_d10 (takes_of rfl rfl rfl rfl) (sa_cons (se_var 2) (sa_cons se_int (sa_cons (se_bin om_subI (se_var 1) se_int) sa_nil)))))) (sw_or (st_cmp (om_neD Z.k hr.u64) (se_callB (((cm_len Z.k).or (cm_lenI (by rw [Z.cN]; decide) Z.len5 ((ok_c19m3 Z).mono (by decide)) hr Z.d_c19m3)).or cm_lenS) (by rfl) Z.b_len (by rfl) (sa_cons (se_var 2) sa_nil)) se_int (nomark _)) (sw_or1 (st_cmp om_geI (se_pick (se_pick (se_ix (im_seq Z.k) (se_var 2) se_int) (se_get (hr.u1) (se_var 2) se_int (fun _ _ => rfl))) (se_ix im_str (se_var 2) se_int)) (se_pick (se_pick (se_ix (im_seq Z.k) (se_var 2) se_int) (se_get (hr.u1) (se_var 2) se_int (fun _ _ => rfl))) (se_ix im_str (se_var 2) se_int)) (nomark _)))))).t
  (sb_one (ss_ret se_bl))
  sb_nil)))
  (sb_one (ss_ret (se_callP ((ok_d11 Z).mono (by decide)) hr (by rfl) Z.n_is_ascending Z.f_d11.kp Z.d_d11 (takes_of rfl rfl rfl rfl) (sa_cons (se_var 0) sa_nil))))))
theorem ok_d18 (Z : Fx P w K mg base T ad fd cv bm) : FnOk P w K mg base (L2.CX P w) 1 (ad 6) (fd 6) ["many", "ties"] (spM T 2 (mFn 7 m_d18)) :=
  fn_mk Z.f_d18 sc_d18 fun cdv A outer s H E hr => (sb_cons (lc_stmt (i := 2) (own := [("_", 5)]) set_lst rfl sc_d18.nd rfl rfl (sw_true rfl rfl rfl (by decide +kernel)) (si_range1 (by rfl) Z.b_range (sa_cons (se_var 0) sa_nil)) (show blkC ["many", "ties", "near", "here", "there", "_", "points"] (defScope s_d18) _ _ = true from by decide +kernel) (fun s H C cl fp => (sg_name 5 sc_d18.nd rfl (by first | exact Or.inl rfl | exact Or.inr rfl))) (fun s H C cl fp => sts_nil) (fun s H C cl fp => (se_new (sf_lst sa_nil))) (by decide))
  (sb_cons (ss_for (passes_of rfl) rfl (si_pick (si_pick (si_tup Z.k (se_var 1)) (si_lst (se_var 1))) (si_str (se_var 1))) (sg_tup Z.k rfl (sgs_cons (sg_name 3 sc_d18.nd rfl (by first | exact Or.inl rfl | exact Or.inr rfl)) (sgs_cons (sg_name 4 sc_d18.nd rfl (by first | exact Or.inl rfl | exact Or.inr rfl)) sgs_nil)))
  (sb_cons (ss_expr (se_bm PySem.F.plainAttrs_list PySem.F.slot_list_append PySem.F.type_list_append qt_append ty_list (se_pick (se_pick (se_ix (im_seq Z.k) (se_var 2) (se_var 3)) (se_get (hr.u1) (se_var 2) (se_var 3) (fun _ _ => rfl))) (se_ix im_str (se_var 2) (se_var 3))) (sa_cons (se_var 4) sa_nil)))
  (sb_one (ss_expr (se_bm PySem.F.plainAttrs_list PySem.F.slot_list_append PySem.F.type_list_append qt_append ty_list (se_pick (se_pick (se_ix (im_seq Z.k) (se_var 2) (se_var 4)) (se_get (hr.u1) (se_var 2) (se_var 4) (fun _ _ => rfl))) (se_ix im_str (se_var 2) (se_var 4))) (sa_cons (se_var 3) sa_nil))))))
  (sb_one (ss_ret (se_callTy (cm_tuple Z.k) (by rfl) Z.b_tuple (by rfl) (sa_cons (se_lst (sf_lc (own := [("points", 6)]) rfl sc_d18.nd (si_pick (si_pick (si_tup Z.k (se_var 2)) (si_lst (se_var 2))) (si_str (se_var 2))) (show blkC ["many", "ties", "near", "here", "there", "_", "points"] (defScope s_d18) _ _ = true from by decide +kernel) (fun s H C cl fp => (sg_name 6 sc_d18.nd rfl (by first | exact Or.inl rfl | exact Or.inr rfl))) (fun s H C cl fp => sts_nil) (fun s H C cl fp => (se_callTy (cm_tuple Z.k) (by rfl) Z.b_tuple (by rfl) (sa_cons (se_lst (sf_callB ((((cf_sortI Z.k).or (cf_sortDI rfl)).or (cf_sortT Z.k)).or (cf_sortD Z.k hr.u64)) (by rfl) Z.b_sorted (by rfl) (sa_cons (se_var 6) sa_nil))) sa_nil))) (by decide))) sa_nil))))))
theorem ok_d20 (Z : Fx P w K mg base T ad fd cv bm) : FnOk P w K mg base (L2.CX P w) 1 (ad 7) (fd 7) ["web"] (spM T 1 (mFn 1 m_d20)) :=
  fn_mk Z.f_d20 sc_d20 fun cdv A outer s H E hr => (sb_one (ss_if (st_not (st_val (se_callB (cm_isi Z.k (Z.isi rfl)) (by rfl) Z.b_isinstance (by rfl) (sa_cons (se_var 0) (sa_cons (se_glo 12 (by rfl) Z.n_Web (by rw [Z.g_Web]; rfl)) sa_nil)))))
  (sb_one (ss_raise 0 rfl (takes_of rfl rfl rfl rfl) PySem.F.excBase_ValueError Z.x0 Z.n_InvalidWeb Z.k0 (Z.rs0 rfl) (by rfl)))
  sb_nil))
theorem ok_d21 (Z : Fx P w K mg base T ad fd cv bm) : FnOk P w K mg base (L2.CX P w) 4 (ad 8) (fd 8) ["web", "point"] (spM T 2 (mFn 2 m_d21)) :=
  fn_mk Z.f_d21 sc_d21 fun cdv A outer s H E hr => (sb_one (ss_if (st_not (st_val (se_callP ((ok_d9 Z).mono (by decide)) hr (by rfl) Z.n_is_between Z.f_d9.kp Z.d_d9 (takes_of rfl rfl rfl rfl) (sa_cons (se_var 1) (sa_cons se_int (sa_cons (se_bin om_subI (se_callB (((cm_len Z.k).or (cm_lenI (by rw [Z.cN]; decide) Z.len5 ((ok_c19m3 Z).mono (by decide)) hr Z.d_c19m3)).or cm_lenS) (by rfl) Z.b_len (by rfl) (sa_cons (se_var 0) sa_nil)) se_int) sa_nil))))))
  (sb_one (ss_raise1 3 rfl (takes_of rfl rfl rfl rfl) (by rw [Z.cN]; rfl) Z.o3 Z.i3 Z.t3 (Z.ok_i3.mono (by decide)) hr Z.d_i3 (passes_call (W := WN E) (takes_of rfl rfl rfl rfl) (fun _ _ _ _ h => h.elim)) (by rfl) Z.n_InvalidNumber (se_var 1)))
  sb_nil))
theorem ok_d24 (Z : Fx P w K mg base T ad fd cv bm) : FnOk P w K mg base (L2.CX P w) 4 (ad 9) (fd 9) ["k"] (spM T 1 (mFn 1 m_d24)) :=
  fn_mk Z.f_d24 sc_d24 fun cdv A outer s H E hr => (sb_one (ss_if (st_not (st_val (se_callP ((ok_d9 Z).mono (by decide)) hr (by rfl) Z.n_is_between Z.f_d9.kp Z.d_d9 (takes_of rfl rfl rfl rfl) (sa_cons (se_var 0) (sa_cons se_int (sa_cons (se_gint (by rfl) Z.n_GREATEST_K Z.v_GREATEST_K) sa_nil))))))
  (sb_one (ss_raise1 3 rfl (takes_of rfl rfl rfl rfl) (by rw [Z.cN]; rfl) Z.o3 Z.i3 Z.t3 (Z.ok_i3.mono (by decide)) hr Z.d_i3 (passes_call (W := WN E) (takes_of rfl rfl rfl rfl) (fun _ _ _ _ h => h.elim)) (by rfl) Z.n_InvalidNumber (se_var 0)))
  sb_nil))
theorem ok_d31 (Z : Fx P w K mg base T ad fd cv bm) : FnOk P w K mg base (L2.CX P w) 1 (ad 10) (fd 10) ["low", "high", "k"] (spM T 3 (mFn 3 m_d31)) :=
  fn_mk Z.f_d31 sc_d31 fun cdv A outer s H E hr => (sb_cons (ss_if ((sw_and (st_tyEq (g := 2) Z.k hr.u1 Z.tyo (by rfl) Z.b_type (by rfl) (by rfl) Z.b_int (by rfl) (se_var 0)) (sw_and (st_tyEq (g := 2) Z.k hr.u1 Z.tyo (by rfl) Z.b_type (by rfl) (by rfl) Z.b_int (by rfl) (se_var 1)) (sw_and1 (st_chain3 om_leI om_ltI om_leI se_int (se_var 0) (se_var 1) (se_var 2)))))).t
  (sb_one (ss_ret (se_bin om_orI (se_bin om_shlI se_int (se_var 0)) (se_bin om_shlI se_int (se_var 1)))))
  sb_nil)
  (sb_one (ss_ret se_non)))
theorem ok_d32 (Z : Fx P w K mg base T ad fd cv bm) : FnOk P w K mg base (L2.CX P w) 2 (ad 11) (fd 11) ["k", "line"] (spM T 2 (mFn 2 m_d32)) :=
  fn_mk Z.f_d32 sc_d32 fun cdv A outer s H E hr => (sb_cons (ss_if ((sw_or (st_not (st_val (se_callP ((ok_d9 Z).mono (by decide)) hr (by rfl) Z.n_is_between Z.f_d9.kp Z.d_d9 (takes_of rfl rfl rfl rfl) (sa_cons (se_pick (se_pick (se_ix (im_seq Z.k) (se_var 1) se_int) (se_get (hr.u1) (se_var 1) se_int (fun _ _ => rfl))) (se_ix im_str (se_var 1) se_int)) (sa_cons se_int (sa_cons (se_var 0) sa_nil)))))) (sw_or1 (st_not (st_val (se_callP ((ok_d9 Z).mono (by decide)) hr (by rfl) Z.n_is_between Z.f_d9.kp Z.d_d9 (takes_of rfl rfl rfl rfl) (sa_cons (se_pick (se_pick (se_ix (im_seq Z.k) (se_var 1) se_int) (se_get (hr.u1) (se_var 1) se_int (fun _ _ => rfl))) (se_ix im_str (se_var 1) se_int)) (sa_cons (se_gint (by rfl) Z.n_LEAST_COLOUR Z.v_LEAST_COLOUR) (sa_cons (se_gint (by rfl) Z.n_GREATEST_COLOUR Z.v_GREATEST_COLOUR) sa_nil))))))))).t
  (sb_one (ss_ret se_non))
  sb_nil)
  (sb_one (ss_ret (se_bin om_shlI se_int (se_pick (se_pick (se_ix (im_seq Z.k) (se_var 1) se_int) (se_get (hr.u1) (se_var 1) se_int (fun _ _ => rfl))) (se_ix im_str (se_var 1) se_int))))))
theorem ok_d33 (Z : Fx P w K mg base T ad fd cv bm) : FnOk P w K mg base (L2.CX P w) 3 (ad 12) (fd 12) ["within", "ahead"] (spM T 2 (mFn 5 m_d33)) :=
  fn_mk Z.f_d33 sc_d33 fun cdv A outer s H E hr => (sb_cons (ss_if ((sw_or (st_not (st_val (se_callB (cm_isi Z.k (Z.isi rfl)) (by rfl) Z.b_isinstance (by rfl) (sa_cons (se_var 0) (sa_cons (se_glob 2 (by rfl) Z.b_tuple (by rfl) (by rw [Z.g_tuple]; rfl)) sa_nil))))) (sw_or1 (st_cmp om_gtI (se_callB (((cm_len Z.k).or (cm_lenI (by rw [Z.cN]; decide) Z.len5 ((ok_c19m3 Z).mono (by decide)) hr Z.d_c19m3)).or cm_lenS) (by rfl) Z.b_len (by rfl) (sa_cons (se_var 0) sa_nil)) (se_gint (by rfl) Z.n_MOST_WITHIN Z.v_MOST_WITHIN) (nomark _))))).t
  (sb_one (ss_ret se_non))
  sb_nil)
  (sb_cons (ss_set 2 sc_d33.nd rfl (by first | exact Or.inl rfl | exact Or.inr rfl) (se_callB (((cm_len Z.k).or (cm_lenI (by rw [Z.cN]; decide) Z.len5 ((ok_c19m3 Z).mono (by decide)) hr Z.d_c19m3)).or cm_lenS) (by rfl) Z.b_len (by rfl) (sa_cons (se_var 1) sa_nil)))
  (sb_cons (ss_set 3 sc_d33.nd rfl (by first | exact Or.inl rfl | exact Or.inr rfl) se_int)
  (sb_cons (ss_for (passes_of rfl) rfl (si_pick (si_pick (si_tup Z.k (se_var 0)) (si_lst (se_var 0))) (si_str (se_var 0))) (sg_name 4 sc_d33.nd rfl (by first | exact Or.inl rfl | exact Or.inr rfl))
  (sb_cons (ss_if ((sw_or (st_tyNe (g := 2) Z.k hr.u1 Z.tyo (by rfl) Z.b_type (by rfl) (by rfl) Z.b_int (by rfl) (se_var 4)) (sw_or1 (st_not (st_chain om_leI om_ltI se_int (se_var 4) (se_var 2)))))).t
  (sb_one (ss_ret se_non))
  sb_nil)
  (sb_one (ss_set 3 sc_d33.nd rfl (by first | exact Or.inl rfl | exact Or.inr rfl) (se_bin om_orI (se_var 3) (se_pick (se_pick (se_ix (im_seq Z.k) (se_var 1) (se_var 4)) (se_get (hr.u1) (se_var 1) (se_var 4) (fun _ _ => rfl))) (se_ix im_str (se_var 1) (se_var 4))))))))
  (sb_one (ss_ret (se_var 3)))))))
theorem ok_d34 (Z : Fx P w K mg base T ad fd cv bm) : FnOk P w K mg base (L2.CX P w) 4 (ad 13) (fd 13) ["k", "line", "ahead"] (spM T 3 (mFn 4 m_d34)) :=
  fn_mk Z.f_d34 sc_d34 fun cdv A outer s H E hr => (sb_cons (ss_if ((sw_or (st_not (st_val (se_callP ((ok_d9 Z).mono (by decide)) hr (by rfl) Z.n_is_between Z.f_d9.kp Z.d_d9 (takes_of rfl rfl rfl rfl) (sa_cons (se_pick (se_pick (se_ix (im_seq Z.k) (se_var 1) se_int) (se_get (hr.u1) (se_var 1) se_int (fun _ _ => rfl))) (se_ix im_str (se_var 1) se_int)) (sa_cons se_int (sa_cons (se_gint (by rfl) Z.n_MOST_LEAST Z.v_MOST_LEAST) sa_nil)))))) (sw_or1 (st_not (st_val (se_callP ((ok_d9 Z).mono (by decide)) hr (by rfl) Z.n_is_between Z.f_d9.kp Z.d_d9 (takes_of rfl rfl rfl rfl) (sa_cons (se_pick (se_pick (se_ix (im_seq Z.k) (se_var 1) se_int) (se_get (hr.u1) (se_var 1) se_int (fun _ _ => rfl))) (se_ix im_str (se_var 1) se_int)) (sa_cons se_int (sa_cons (se_var 0) sa_nil))))))))).t
  (sb_one (ss_ret se_non))
  sb_nil)
  (sb_cons (ss_set 3 sc_d34.nd rfl (by first | exact Or.inl rfl | exact Or.inr rfl) (se_call ((ok_d33 Z).mono (by decide)) hr (by rfl) Z.n_bits_of_many Z.f_d33.kp Z.d_d33 (takes_of rfl rfl rfl rfl) (sa_cons (se_pick (se_pick (se_sl (sm_tup Z.k) (se_var 1) (so_some se_int) so_none) (se_sl sm_str (se_var 1) (so_some se_int) so_none)) (se_lst (sf_sl sf_lstS (se_var 1) (so_some se_int) so_none))) (sa_cons (se_var 2) sa_nil))))
  (sb_one (ss_ret (se_if (st_cmp om_isN (se_var 3) se_non (nomark _)) se_non (se_bin om_andI (se_var 3) (se_inv (se_bin om_shlI se_int (se_pick (se_pick (se_ix (im_seq Z.k) (se_var 1) se_int) (se_get (hr.u1) (se_var 1) se_int (fun _ _ => rfl))) (se_ix im_str (se_var 1) se_int))))))))))
theorem ok_d35 (Z : Fx P w K mg base T ad fd cv bm) : FnOk P w K mg base (L2.CX P w) 5 (ad 14) (fd 14) ["k", "line", "ahead"] (spM T 3 (mFn 4 m_d35)) :=
  fn_mk Z.f_d35 sc_d35 fun cdv A outer s H E hr => (sb_cons (ss_if ((sw_or (st_not (st_val (se_callB (cm_isi Z.k (Z.isi rfl)) (by rfl) Z.b_isinstance (by rfl) (sa_cons (se_var 1) (sa_cons (se_glob 2 (by rfl) Z.b_tuple (by rfl) (by rw [Z.g_tuple]; rfl)) sa_nil))))) (sw_or (st_cmp (om_eqD Z.k hr.u64) (se_callB (((cm_len Z.k).or (cm_lenI (by rw [Z.cN]; decide) Z.len5 ((ok_c19m3 Z).mono (by decide)) hr Z.d_c19m3)).or cm_lenS) (by rfl) Z.b_len (by rfl) (sa_cons (se_var 1) sa_nil)) se_int (nomark _)) (sw_or1 (st_not (st_val (se_callB (cm_isi Z.k (Z.isi rfl)) (by rfl) Z.b_isinstance (by rfl) (sa_cons (se_pick (se_pick (se_ix (im_seq Z.k) (se_var 1) se_int) (se_get (hr.u1) (se_var 1) se_int (fun _ _ => rfl))) (se_ix im_str (se_var 1) se_int)) (sa_cons (se_glob 5 (by rfl) Z.b_str (by rfl) (by rw [Z.g_str]; rfl)) sa_nil))))))))).t
  (sb_one (ss_ret se_non))
  sb_nil)
  (sb_cons (ss_set 3 sc_d35.nd rfl (by first | exact Or.inl rfl | exact Or.inr rfl) (se_pick (se_pick (se_ix (im_seq Z.k) (se_var 1) se_int) (se_get (hr.u1) (se_var 1) se_int (fun _ _ => rfl))) (se_ix im_str (se_var 1) se_int)))
  (sb_cons (ss_if (st_cmp (om_neD Z.k hr.u64) (se_getK Z.g_LENGTHS_sentences Z.ktab_LENGTHS_sentences (se_glo 58 (by rfl) Z.n_LENGTHS_sentences (by rw [Z.g_LENGTHS_sentences]; rfl)) (se_var 3) ⟨by rfl, by rfl, by rfl, by rfl⟩) (se_callB (((cm_len Z.k).or (cm_lenI (by rw [Z.cN]; decide) Z.len5 ((ok_c19m3 Z).mono (by decide)) hr Z.d_c19m3)).or cm_lenS) (by rfl) Z.b_len (by rfl) (sa_cons (se_var 1) sa_nil)) (nomark _))
  (sb_one (ss_ret se_non))
  sb_nil)
  (sb_cons (ss_if (st_pick (st_inD hr.u1 (se_var 3) (se_tup (sa_cons se_str (sa_cons se_str sa_nil))) (by rfl)) (st_cmp (om_in Z.k hr.u65) (se_var 3) (se_tup (sa_cons se_str (sa_cons se_str sa_nil))) (by rfl)))
  (sb_one (ss_ret (se_callP ((ok_d31 Z).mono (by decide)) hr (by rfl) Z.n_bits_of_two Z.f_d31.kp Z.d_d31 (takes_of rfl rfl rfl rfl) (sa_cons (se_pick (se_pick (se_ix (im_seq Z.k) (se_var 1) se_int) (se_get (hr.u1) (se_var 1) se_int (fun _ _ => rfl))) (se_ix im_str (se_var 1) se_int)) (sa_cons (se_pick (se_pick (se_ix (im_seq Z.k) (se_var 1) se_int) (se_get (hr.u1) (se_var 1) se_int (fun _ _ => rfl))) (se_ix im_str (se_var 1) se_int)) (sa_cons (se_var 0) sa_nil))))))
  sb_nil)
  (sb_cons (ss_if (st_pick (st_inD hr.u1 (se_var 3) (se_tup (sa_cons se_str (sa_cons se_str sa_nil))) (by rfl)) (st_cmp (om_in Z.k hr.u65) (se_var 3) (se_tup (sa_cons se_str (sa_cons se_str sa_nil))) (by rfl)))
  (sb_one (ss_ret (se_call ((ok_d33 Z).mono (by decide)) hr (by rfl) Z.n_bits_of_many Z.f_d33.kp Z.d_d33 (takes_of rfl rfl rfl rfl) (sa_cons (se_pick (se_pick (se_ix (im_seq Z.k) (se_var 1) se_int) (se_get (hr.u1) (se_var 1) se_int (fun _ _ => rfl))) (se_ix im_str (se_var 1) se_int)) (sa_cons (se_var 2) sa_nil)))))
  sb_nil)
  (sb_cons (ss_if (st_cmp (om_eqD Z.k hr.u64) (se_var 3) se_str (nomark _))
  (sb_one (ss_ret (se_call ((ok_d33 Z).mono (by decide)) hr (by rfl) Z.n_bits_of_many Z.f_d33.kp Z.d_d33 (takes_of rfl rfl rfl rfl) (sa_cons (se_pick (se_pick (se_sl (sm_tup Z.k) (se_var 1) (so_some se_int) so_none) (se_sl sm_str (se_var 1) (so_some se_int) so_none)) (se_lst (sf_sl sf_lstS (se_var 1) (so_some se_int) so_none))) (sa_cons (se_var 2) sa_nil)))))
  sb_nil)
  (sb_one (ss_ret (se_if (st_cmp (om_eqD Z.k hr.u64) (se_var 3) se_str (nomark _)) (se_callP ((ok_d32 Z).mono (by decide)) hr (by rfl) Z.n_bits_of_coloured Z.f_d32.kp Z.d_d32 (takes_of rfl rfl rfl rfl) (sa_cons (se_var 0) (sa_cons (se_var 1) sa_nil))) (se_call ((ok_d34 Z).mono (by decide)) hr (by rfl) Z.n_bits_of_least Z.f_d34.kp Z.d_d34 (takes_of rfl rfl rfl rfl) (sa_cons (se_var 0) (sa_cons (se_var 1) (sa_cons (se_var 2) sa_nil)))))))))))))
theorem ok_c19m5 (Z : Fx P w K mg base T ad fd cv bm) : FnOk P w K mg base (L2.CX P w) 1 (ad 15) (fd 15) ["self", "other"] (spM T 2 (mFn 2 m_c19m5)) :=
  fn_mk Z.f_c19m5 sc_c19m5 fun cdv A outer s H E hr => (sb_one (ss_ret (se_and (se_callB (cm_isi Z.k (Z.isi rfl)) (by rfl) Z.b_isinstance (by rfl) (sa_cons (se_var 1) (sa_cons (se_glo 12 (by rfl) Z.n_Web (by rw [Z.g_Web]; rfl)) sa_nil))) (se_and (se_cmp (om_eqD Z.k hr.u64) (se_fld 5 0 Z.cls5 Z.na5_colours (by rw [Z.cN]; decide) (by rw [Z.cN]; rfl) (se_var 0)) (se_fld 5 0 Z.cls5 Z.na5_colours (by rw [Z.cN]; decide) (by rw [Z.cN]; rfl) (se_var 1)) (nomark _)) (se_one (se_cmp (om_eqD Z.k hr.u64) (se_fld 5 1 Z.cls5 Z.na5_ties (by rw [Z.cN]; decide) (by rw [Z.cN]; rfl) (se_var 0)) (se_fld 5 1 Z.cls5 Z.na5_ties (by rw [Z.cN]; decide) (by rw [Z.cN]; rfl) (se_var 1)) (nomark _)))))))
theorem ok_d36 (Z : Fx P w K mg base T ad fd cv bm) : FnOk P w K mg base (L2.CX P w) 6 (ad 16) (fd 16) ["k", "value"] (spM T 2 (mFn 5 m_d36)) :=
  fn_mk Z.f_d36 sc_d36 fun cdv A outer s H E hr => (sb_cons (ss_if ((sw_or (st_not (st_val (se_callB (cm_isi Z.k (Z.isi rfl)) (by rfl) Z.b_isinstance (by rfl) (sa_cons (se_var 1) (sa_cons (se_glob 2 (by rfl) Z.b_tuple (by rfl) (by rw [Z.g_tuple]; rfl)) sa_nil))))) (sw_or1 (st_not (st_chain om_leI om_leI se_int (se_callB (((cm_len Z.k).or (cm_lenI (by rw [Z.cN]; decide) Z.len5 ((ok_c19m3 Z).mono (by decide)) hr Z.d_c19m3)).or cm_lenS) (by rfl) Z.b_len (by rfl) (sa_cons (se_var 1) sa_nil)) (se_gint (by rfl) Z.n_MOST_LINES_sentences Z.v_MOST_LINES_sentences)))))).t
  (sb_one (ss_ret se_non))
  sb_nil)
  (sb_cons (ss_set 2 sc_d36.nd rfl (by first | exact Or.inl rfl | exact Or.inr rfl) (se_new (sf_lst sa_nil)))
  (sb_cons (ss_for (passes_of rfl) rfl (si_pick (si_pick (si_tup Z.k (se_var 1)) (si_lst (se_var 1))) (si_str (se_var 1))) (sg_name 3 sc_d36.nd rfl (by first | exact Or.inl rfl | exact Or.inr rfl))
  (sb_cons (ss_set 4 sc_d36.nd rfl (by first | exact Or.inl rfl | exact Or.inr rfl) (se_if (st_pick (st_inD hr.u1 (se_var 3) (se_gval (by rfl) Z.n_MADE_OF_NONE Z.v_MADE_OF_NONE) (by rfl)) (st_pick (st_cmp (om_inE Z.k) (se_var 3) (se_gval (by rfl) Z.n_MADE_OF_NONE Z.v_MADE_OF_NONE) (by rfl)) (st_cmp ((om_in Z.k hr.u65).or (om_inI Z.k Z.eqm5 ((ok_c19m5 Z).mono (by decide)) hr Z.d_c19m5)) (se_var 3) (se_gval (by rfl) Z.n_MADE_OF_NONE Z.v_MADE_OF_NONE) (by rfl)))) se_int (se_call ((ok_d35 Z).mono (by decide)) hr (by rfl) Z.n_bits_of_line Z.f_d35.kp Z.d_d35 (takes_of rfl rfl rfl rfl) (sa_cons (se_var 0) (sa_cons (se_var 3) (sa_cons (se_var 2) sa_nil))))))
  (sb_cons (ss_if (st_cmp om_isN (se_var 4) se_non (nomark _))
  (sb_one (ss_ret se_non))
  sb_nil)
  (sb_one (ss_expr (se_bm PySem.F.plainAttrs_list PySem.F.slot_list_append PySem.F.type_list_append qt_append ty_list (se_var 2) (sa_cons (se_var 4) sa_nil)))))))
  (sb_one (ss_ret (se_var 2))))))
theorem ok_d37 (Z : Fx P w K mg base T ad fd cv bm) : FnOk P w K mg base (L2.CX P w) 7 (ad 17) (fd 17) ["k", "value"] (spM T 2 (mFn 3 m_d37)) :=
  fn_mk Z.f_d37 sc_d37 fun cdv A outer s H E hr => (sb_cons (ss_set 2 sc_d37.nd rfl (by first | exact Or.inl rfl | exact Or.inr rfl) (se_callP ((ok_d36 Z).mono (by decide)) hr (by rfl) Z.n_bits_of_lines Z.f_d36.kp Z.d_d36 (takes_of rfl rfl rfl rfl) (sa_cons (se_var 0) (sa_cons (se_var 1) sa_nil))))
  (sb_one (ss_ret (se_and (se_cmp om_notN (se_var 2) se_non (nomark _)) (se_one (se_cmp (om_eqD Z.k hr.u64) (se_pick (se_pick (se_ix (im_seq Z.k) (se_var 2) (se_neg se_int)) (se_get (hr.u1) (se_var 2) (se_neg se_int) (fun _ _ => rfl))) (se_ix im_str (se_var 2) (se_neg se_int))) se_int (nomark _)))))))
theorem ok_d38 (Z : Fx P w K mg base T ad fd cv bm) : FnOk P w K mg base (L2.CX P w) 8 (ad 18) (fd 18) ["k", "sentence"] (spM T 2 (mFn 2 m_d38)) :=
  fn_mk Z.f_d38 sc_d38 fun cdv A outer s H E hr => (sb_one (ss_if (st_not (st_val (se_callP ((ok_d37 Z).mono (by decide)) hr (by rfl) Z.n_is_sentence_of Z.f_d37.kp Z.d_d37 (takes_of rfl rfl rfl rfl) (sa_cons (se_var 0) (sa_cons (se_var 1) sa_nil)))))
  (sb_one (ss_raise 2 rfl (takes_of rfl rfl rfl rfl) PySem.F.excBase_ValueError Z.x2 Z.n_InvalidSentence Z.k2 (Z.rs2 rfl) (by rfl)))
  sb_nil))
theorem ok_d43 (Z : Fx P w K mg base T ad fd cv bm) : FnOk P w K mg base (L2.CX P w) 3 (ad 19) (fd 19) ["word"] (spM T 1 (mFn 3 m_d43)) :=
  fn_mk Z.f_d43 sc_d43 fun cdv A outer s H E hr => (sb_cons (ss_set 1 sc_d43.nd rfl (by first | exact Or.inl rfl | exact Or.inr rfl) (se_if (st_cmp (om_eqD Z.k hr.u64) (se_pick (se_pick (se_sl (sm_tup Z.k) (se_var 0) so_none (so_some se_int)) (se_sl sm_str (se_var 0) so_none (so_some se_int))) (se_lst (sf_sl sf_lstS (se_var 0) so_none (so_some se_int)))) se_str (nomark _)) (se_pick (se_pick (se_sl (sm_tup Z.k) (se_var 0) (so_some se_int) so_none) (se_sl sm_str (se_var 0) (so_some se_int) so_none)) (se_lst (sf_sl sf_lstS (se_var 0) (so_some se_int) so_none))) (se_var 0)))
  (sb_cons (ss_if ((sw_or (st_not (st_chain om_leI om_leI se_int (se_callB (((cm_len Z.k).or (cm_lenI (by rw [Z.cN]; decide) Z.len5 ((ok_c19m3 Z).mono (by decide)) hr Z.d_c19m3)).or cm_lenS) (by rfl) Z.b_len (by rfl) (sa_cons (se_var 1) sa_nil)) (se_gint (by rfl) Z.n_MOST_DIGITS Z.v_MOST_DIGITS))) (sw_or1 (st_not (st_val (se_callB ((cm_all rfl).or (cm_allI rfl)) (by rfl) Z.b_all (by rfl) (sa_cons (se_lst (sf_lc (own := [("digit", 2)]) rfl sc_d43.nd (si_pick (si_pick (si_tup Z.k (se_var 1)) (si_lst (se_var 1))) (si_str (se_var 1))) (show blkC ["word", "digits", "digit"] (defScope s_d43) _ _ = true from by decide +kernel) (fun s H C cl fp => (sg_name 2 sc_d43.nd rfl (by first | exact Or.inl rfl | exact Or.inr rfl))) (fun s H C cl fp => sts_nil) (fun s H C cl fp => (se_pick (se_pick (se_inD hr.u1 (se_var 2) (se_gval (by rfl) Z.n_DIGITS Z.v_DIGITS) (by rfl)) (se_pick (se_cmp (om_inE Z.k) (se_var 2) (se_gval (by rfl) Z.n_DIGITS Z.v_DIGITS) (by rfl)) (se_cmp ((om_in Z.k hr.u65).or (om_inI Z.k Z.eqm5 ((ok_c19m5 Z).mono (by decide)) hr Z.d_c19m5)) (se_var 2) (se_gval (by rfl) Z.n_DIGITS Z.v_DIGITS) (by rfl)))) (se_cmp om_inS (se_var 2) (se_gval (by rfl) Z.n_DIGITS Z.v_DIGITS) (by rfl)))) (by decide))) sa_nil))))))).t
  (sb_one (ss_ret se_non))
  sb_nil)
  (sb_cons (ss_if ((sw_and (st_cmp (om_eqD Z.k hr.u64) (se_pick (se_pick (se_ix (im_seq Z.k) (se_var 1) se_int) (se_get (hr.u1) (se_var 1) se_int (fun _ _ => rfl))) (se_ix im_str (se_var 1) se_int)) se_str (nomark _)) (sw_and1 (st_cmp (om_neD Z.k hr.u64) (se_var 0) se_str (nomark _))))).t
  (sb_one (ss_ret se_non))
  sb_nil)
  (sb_one (ss_ret (se_callTy (cm_int.or cm_intS) (by rfl) Z.b_int (by rfl) (sa_cons (se_var 0) sa_nil)))))))
theorem ok_d44 (Z : Fx P w K mg base T ad fd cv bm) : FnOk P w K mg base (L2.CX P w) 4 (ad 20) (fd 20) ["word"] (spM T 1 (mFn 3 m_d44)) :=
  fn_mk Z.f_d44 sc_d44 fun cdv A outer s H E hr => (sb_cons (ss_if (st_cmp ((om_eqD Z.k hr.u64).or (om_eqI (by rw [Z.cN]; decide) Z.eqm5 ((ok_c19m5 Z).mono (by decide)) hr Z.d_c19m5)) (se_var 0) (se_gval (by rfl) Z.n_NO_LOT Z.v_NO_LOT) (nomark _))
  (sb_one (ss_ret (se_tup sa_nil)))
  sb_nil)
  (sb_cons (lc_stmt (i := 1) (own := [("part", 2)]) set_lst rfl sc_d44.nd rfl rfl (sw_true rfl rfl rfl (by decide +kernel)) (si_pick (si_pick (si_tup Z.k (se_lst (sf_split (se_var 0) se_str))) (si_lst (se_lst (sf_split (se_var 0) se_str)))) (si_str (se_lst (sf_split (se_var 0) se_str)))) (show blkC ["word", "numbers", "part"] (defScope s_d44) _ _ = true from by decide +kernel) (fun s H C cl fp => (sg_name 2 sc_d44.nd rfl (by first | exact Or.inl rfl | exact Or.inr rfl))) (fun s H C cl fp => sts_nil) (fun s H C cl fp => (se_callP ((ok_d43 Z).mono (by decide)) hr (by rfl) Z.n_number_in Z.f_d43.kp Z.d_d43 takes_none5 (sa_cons (se_var 2) sa_nil))) (by decide))
  (sb_one (ss_ret (se_if (st_pick (st_inD hr.u1 se_non (se_var 1) (by rfl)) (st_pick (st_cmp (om_inE Z.k) se_non (se_var 1) (by rfl)) (st_cmp (om_in Z.k hr.u65) se_non (se_var 1) (by rfl)))) se_non (se_callTy (cm_tuple Z.k) (by rfl) Z.b_tuple (by rfl) (sa_cons (se_var 1) sa_nil)))))))
theorem ok_d45 (Z : Fx P w K mg base T ad fd cv bm) : FnOk P w K mg base (L2.CX P w) 3 (ad 21) (fd 21) ["numbers"] (spM T 1 (mFn 2 m_d45)) :=
  fn_mk Z.f_d45 sc_d45 fun cdv A outer s H E hr => (sb_one (ss_ret (se_if (st_cmp om_gtI (se_callB (((cm_len Z.k).or (cm_lenI (by rw [Z.cN]; decide) Z.len5 ((ok_c19m3 Z).mono (by decide)) hr Z.d_c19m3)).or cm_lenS) (by rfl) Z.b_len (by rfl) (sa_cons (se_var 0) sa_nil)) se_int (nomark _)) (se_join se_str (se_lst (sf_lc (own := [("number", 1)]) rfl sc_d45.nd (si_pick (si_pick (si_tup Z.k (se_var 0)) (si_lst (se_var 0))) (si_str (se_var 0))) (show blkC ["numbers", "number"] (defScope s_d45) _ _ = true from by decide +kernel) (fun s H C cl fp => (sg_name 1 sc_d45.nd rfl (by first | exact Or.inl rfl | exact Or.inr rfl))) (fun s H C cl fp => sts_nil) (fun s H C cl fp => se_bad) (by decide)))) (se_gval (by rfl) Z.n_NO_LOT Z.v_NO_LOT))))
theorem ok_d46 (Z : Fx P w K mg base T ad fd cv bm) : FnOk P w K mg base (L2.CX P w) 4 (ad 22) (fd 22) ["member"] (spM T 1 (mFn 1 m_d46)) :=
  fn_mk Z.f_d46 sc_d46 fun cdv A outer s H E hr => (sb_cons (ss_if (st_val (se_callB (cm_isi Z.k (Z.isi rfl)) (by rfl) Z.b_isinstance (by rfl) (sa_cons (se_var 0) (sa_cons (se_glob 2 (by rfl) Z.b_tuple (by rfl) (by rw [Z.g_tuple]; rfl)) sa_nil))))
  (sb_one (ss_ret (se_callP ((ok_d45 Z).mono (by decide)) hr (by rfl) Z.n_lot_text Z.f_d45.kp Z.d_d45 (takes_of rfl rfl rfl rfl) (sa_cons (se_var 0) sa_nil))))
  sb_nil)
  (sb_one (ss_ret (se_if (st_val (se_callB (cm_isi Z.k (Z.isi rfl)) (by rfl) Z.b_isinstance (by rfl) (sa_cons (se_var 0) (sa_cons (se_glob 5 (by rfl) Z.b_str (by rfl) (by rw [Z.g_str]; rfl)) sa_nil)))) (se_var 0) se_bad))))
theorem ok_d47 (Z : Fx P w K mg base T ad fd cv bm) : FnOk P w K mg base (L2.CX P w) 5 (ad 23) (fd 23) ["members"] (spM T 1 (mFn 2 m_d47)) :=
  fn_mk Z.f_d47 sc_d47 fun cdv A outer s H E hr => (sb_one (ss_ret (se_bin (om_add Z.k) (se_join se_str (se_lst (sf_lc (own := [("member", 1)]) rfl sc_d47.nd (si_pick (si_pick (si_tup Z.k (se_var 0)) (si_lst (se_var 0))) (si_str (se_var 0))) (show blkC ["members", "member"] (defScope s_d47) _ _ = true from by decide +kernel) (fun s H C cl fp => (sg_name 1 sc_d47.nd rfl (by first | exact Or.inl rfl | exact Or.inr rfl))) (fun s H C cl fp => sts_nil) (fun s H C cl fp => (se_callP ((ok_d46 Z).mono (by decide)) hr (by rfl) Z.n_member_text Z.f_d46.kp Z.d_d46 takes_none5 (sa_cons (se_var 1) sa_nil))) (by decide)))) se_str)))
theorem ok_d52 (Z : Fx P w K mg base T ad fd cv bm) : FnOk P w K mg base (L2.CX P w) 3 (ad 24) (fd 24) ["value"] (spM T 1 (mFn 1 m_d52)) :=
  fn_mk Z.f_d52 sc_d52 fun cdv A outer s H E hr => (sb_cons (ss_if ((sw_or (st_not (st_val (se_callB (cm_isi Z.k (Z.isi rfl)) (by rfl) Z.b_isinstance (by rfl) (sa_cons (se_var 0) (sa_cons (se_glob 2 (by rfl) Z.b_tuple (by rfl) (by rw [Z.g_tuple]; rfl)) sa_nil))))) (sw_or (st_cmp (om_eqD Z.k hr.u64) (se_var 0) (se_tup sa_nil) (nomark _)) (sw_or1 (st_not (st_val (se_callB (cm_isi Z.k (Z.isi rfl)) (by rfl) Z.b_isinstance (by rfl) (sa_cons (se_pick (se_pick (se_ix (im_seq Z.k) (se_var 0) se_int) (se_get (hr.u1) (se_var 0) se_int (fun _ _ => rfl))) (se_ix im_str (se_var 0) se_int)) (sa_cons (se_glob 5 (by rfl) Z.b_str (by rfl) (by rw [Z.g_str]; rfl)) sa_nil))))))))).t
  (sb_one (ss_ret se_bl))
  sb_nil)
  (sb_cons (ss_if ((sw_or (st_cmp (om_notInK Z.g_LENGTHS_lines Z.ktab_LENGTHS_lines) (se_pick (se_pick (se_ix (im_seq Z.k) (se_var 0) se_int) (se_get (hr.u1) (se_var 0) se_int (fun _ _ => rfl))) (se_ix im_str (se_var 0) se_int)) (se_glo 59 (by rfl) Z.n_LENGTHS_lines (by rw [Z.g_LENGTHS_lines]; rfl)) (by rfl)) (sw_or1 (st_cmp (om_neD Z.k hr.u64) (se_callB (((cm_len Z.k).or (cm_lenI (by rw [Z.cN]; decide) Z.len5 ((ok_c19m3 Z).mono (by decide)) hr Z.d_c19m3)).or cm_lenS) (by rfl) Z.b_len (by rfl) (sa_cons (se_var 0) sa_nil)) (se_ix (im_K Z.g_LENGTHS_lines Z.ktab_LENGTHS_lines) (se_glo 59 (by rfl) Z.n_LENGTHS_lines (by rw [Z.g_LENGTHS_lines]; rfl)) (se_pick (se_pick (se_ix (im_seq Z.k) (se_var 0) se_int) (se_get (hr.u1) (se_var 0) se_int (fun _ _ => rfl))) (se_ix im_str (se_var 0) se_int))) (nomark _))))).t
  (sb_one (ss_ret se_bl))
  sb_nil)
  (sb_one (ss_ret (se_callP ((ok_d10 Z).mono (by decide)) hr (by rfl) Z.n_are_between Z.f_d10.kp Z.d_d10 (takes_of rfl rfl rfl rfl) (sa_cons (se_pick (se_pick (se_sl (sm_tup Z.k) (se_var 0) (so_some se_int) so_none) (se_sl sm_str (se_var 0) (so_some se_int) so_none)) (se_lst (sf_sl sf_lstS (se_var 0) (so_some se_int) so_none))) (sa_cons se_int (sa_cons (se_gint (by rfl) Z.n_GREATEST_PASSED Z.v_GREATEST_PASSED) sa_nil))))))))
theorem ok_d53 (Z : Fx P w K mg base T ad fd cv bm) : FnOk P w K mg base (L2.CX P w) 1 (ad 25) (fd 25) ["k", "line"] (spM T 2 (mFn 2 m_d53)) :=
  fn_mk Z.f_d53 sc_d53 fun cdv A outer s H E hr => (sb_cons (ss_if (st_cmp (om_eqD Z.k hr.u64) (se_pick (se_pick (se_ix (im_seq Z.k) (se_var 1) se_int) (se_get (hr.u1) (se_var 1) se_int (fun _ _ => rfl))) (se_ix im_str (se_var 1) se_int)) se_str (nomark _))
  (sb_one (ss_ret (se_tup sa_nil)))
  sb_nil)
  (sb_cons (ss_if (st_cmp (om_eqD Z.k hr.u64) (se_pick (se_pick (se_ix (im_seq Z.k) (se_var 1) se_int) (se_get (hr.u1) (se_var 1) se_int (fun _ _ => rfl))) (se_ix im_str (se_var 1) se_int)) se_str (nomark _))
  (sb_one (ss_ret (se_if (st_cmp om_leI (se_pick (se_pick (se_ix (im_seq Z.k) (se_var 1) se_int) (se_get (hr.u1) (se_var 1) se_int (fun _ _ => rfl))) (se_ix im_str (se_var 1) se_int)) (se_var 0) (nomark _)) (se_tup (sa_cons (se_pick (se_pick (se_ix (im_seq Z.k) (se_var 1) se_int) (se_get (hr.u1) (se_var 1) se_int (fun _ _ => rfl))) (se_ix im_str (se_var 1) se_int)) sa_nil)) se_non)))
  sb_nil)
  (sb_cons (ss_if (st_cmp (om_eqD Z.k hr.u64) (se_pick (se_pick (se_ix (im_seq Z.k) (se_var 1) se_int) (se_get (hr.u1) (se_var 1) se_int (fun _ _ => rfl))) (se_ix im_str (se_var 1) se_int)) se_str (nomark _))
  (sb_one (ss_ret (se_if ((sw_and (st_cmp om_leI (se_pick (se_pick (se_ix (im_seq Z.k) (se_var 1) se_int) (se_get (hr.u1) (se_var 1) se_int (fun _ _ => rfl))) (se_ix im_str (se_var 1) se_int)) (se_var 0) (nomark _)) (sw_and1 (st_cmp om_leI (se_pick (se_pick (se_ix (im_seq Z.k) (se_var 1) se_int) (se_get (hr.u1) (se_var 1) se_int (fun _ _ => rfl))) (se_ix im_str (se_var 1) se_int)) (se_gint (by rfl) Z.n_MOST_COLOUR Z.v_MOST_COLOUR) (nomark _))))).t (se_tup (sa_cons (se_pick (se_pick (se_ix (im_seq Z.k) (se_var 1) se_int) (se_get (hr.u1) (se_var 1) se_int (fun _ _ => rfl))) (se_ix im_str (se_var 1) se_int)) sa_nil)) se_non)))
  sb_nil)
  (sb_one (ss_ret (se_if (st_chain om_ltI om_leI (se_pick (se_pick (se_ix (im_seq Z.k) (se_var 1) se_int) (se_get (hr.u1) (se_var 1) se_int (fun _ _ => rfl))) (se_ix im_str (se_var 1) se_int)) (se_pick (se_pick (se_ix (im_seq Z.k) (se_var 1) se_int) (se_get (hr.u1) (se_var 1) se_int (fun _ _ => rfl))) (se_ix im_str (se_var 1) se_int)) (se_var 0)) (se_tup (sa_cons (se_pick (se_pick (se_ix (im_seq Z.k) (se_var 1) se_int) (se_get (hr.u1) (se_var 1) se_int (fun _ _ => rfl))) (se_ix im_str (se_var 1) se_int)) (sa_cons (se_pick (se_pick (se_ix (im_seq Z.k) (se_var 1) se_int) (se_get (hr.u1) (se_var 1) se_int (fun _ _ => rfl))) (se_ix im_str (se_var 1) se_int)) sa_nil))) se_non))))))
theorem ok_d54 (Z : Fx P w K mg base T ad fd cv bm) : FnOk P w K mg base (L2.CX P w) 4 (ad 26) (fd 26) ["k", "line", "ahead"] (spM T 3 (mFn 7 m_d54)) :=
  fn_mk Z.f_d54 sc_d54 fun cdv A outer s H E hr => (sb_cons (ss_if (st_not (st_val (se_callP ((ok_d52 Z).mono (by decide)) hr (by rfl) Z.n_is_like_line Z.f_d52.kp Z.d_d52 (takes_of rfl rfl rfl rfl) (sa_cons (se_var 1) sa_nil))))
  (sb_one (ss_ret se_non))
  sb_nil)
  (sb_cons (ss_if (st_cmp (om_eqD Z.k hr.u64) (se_pick (se_pick (se_ix (im_seq Z.k) (se_var 1) se_int) (se_get (hr.u1) (se_var 1) se_int (fun _ _ => rfl))) (se_ix im_str (se_var 1) se_int)) se_str (nomark _))
  (sb_cons (ss_par 3 4 rfl sc_d54.nd rfl rfl (by decide) rfl rfl (sa_cons (se_pick (se_pick (se_ix (im_seq Z.k) (se_var 1) se_int) (se_get (hr.u1) (se_var 1) se_int (fun _ _ => rfl))) (se_ix im_str (se_var 1) se_int)) (sa_cons (se_pick (se_pick (se_ix (im_seq Z.k) (se_var 1) se_int) (se_get (hr.u1) (se_var 1) se_int (fun _ _ => rfl))) (se_ix im_str (se_var 1) se_int)) sa_nil)))
  (sb_cons (ss_if ((sw_or (st_cmp om_geI (se_var 3) (se_callB (((cm_len Z.k).or (cm_lenI (by rw [Z.cN]; decide) Z.len5 ((ok_c19m3 Z).mono (by decide)) hr Z.d_c19m3)).or cm_lenS) (by rfl) Z.b_len (by rfl) (sa_cons (se_var 2) sa_nil)) (nomark _)) (sw_or1 (st_cmp om_geI (se_var 4) (se_callB (((cm_len Z.k).or (cm_lenI (by rw [Z.cN]; decide) Z.len5 ((ok_c19m3 Z).mono (by decide)) hr Z.d_c19m3)).or cm_lenS) (by rfl) Z.b_len (by rfl) (sa_cons (se_var 2) sa_nil)) (nomark _))))).t
  (sb_one (ss_ret se_non))
  sb_nil)
  (sb_one (ss_ret (se_callTy (cm_tuple Z.k) (by rfl) Z.b_tuple (by rfl) (sa_cons (se_lst (sf_sortSet rfl (by rfl) Z.b_sorted (by rfl) Z.b_set (sa_cons (se_bin (om_add Z.k) (se_pick (se_pick (se_ix (im_seq Z.k) (se_var 2) (se_var 3)) (se_get (hr.u1) (se_var 2) (se_var 3) (fun _ _ => rfl))) (se_ix im_str (se_var 2) (se_var 3))) (se_pick (se_pick (se_ix (im_seq Z.k) (se_var 2) (se_var 4)) (se_get (hr.u1) (se_var 2) (se_var 4) (fun _ _ => rfl))) (se_ix im_str (se_var 2) (se_var 4)))) sa_nil))) sa_nil))))))
  sb_nil)
  (sb_cons (ss_if (st_cmp (om_eqD Z.k hr.u64) (se_pick (se_pick (se_ix (im_seq Z.k) (se_var 1) se_int) (se_get (hr.u1) (se_var 1) se_int (fun _ _ => rfl))) (se_ix im_str (se_var 1) se_int)) se_str (nomark _))
  (sb_cons (ss_asg (se_tup (sa_cons (se_pick (se_pick (se_ix (im_seq Z.k) (se_var 1) se_int) (se_get (hr.u1) (se_var 1) se_int (fun _ _ => rfl))) (se_ix im_str (se_var 1) se_int)) (sa_cons (se_pick (se_pick (se_ix (im_seq Z.k) (se_var 1) se_int) (se_get (hr.u1) (se_var 1) se_int (fun _ _ => rfl))) (se_ix im_str (se_var 1) se_int)) sa_nil))) (sg_tup Z.k rfl (sgs_cons (sg_name 5 sc_d54.nd rfl (by first | exact Or.inl rfl | exact Or.inr rfl)) (sgs_cons (sg_name 3 sc_d54.nd rfl (by first | exact Or.inl rfl | exact Or.inr rfl)) sgs_nil))))
  (sb_cons (ss_if ((sw_or (st_cmp om_geI (se_var 3) (se_callB (((cm_len Z.k).or (cm_lenI (by rw [Z.cN]; decide) Z.len5 ((ok_c19m3 Z).mono (by decide)) hr Z.d_c19m3)).or cm_lenS) (by rfl) Z.b_len (by rfl) (sa_cons (se_var 2) sa_nil)) (nomark _)) (sw_or1 (st_pick (st_notinD hr.u1 (se_var 5) (se_pick (se_pick (se_ix (im_seq Z.k) (se_var 2) (se_var 3)) (se_get (hr.u1) (se_var 2) (se_var 3) (fun _ _ => rfl))) (se_ix im_str (se_var 2) (se_var 3))) (by rfl)) (st_pick (st_cmp (om_notInE Z.k) (se_var 5) (se_pick (se_pick (se_ix (im_seq Z.k) (se_var 2) (se_var 3)) (se_get (hr.u1) (se_var 2) (se_var 3) (fun _ _ => rfl))) (se_ix im_str (se_var 2) (se_var 3))) (by rfl)) (st_cmp (om_notIn Z.k hr.u65) (se_var 5) (se_pick (se_pick (se_ix (im_seq Z.k) (se_var 2) (se_var 3)) (se_get (hr.u1) (se_var 2) (se_var 3) (fun _ _ => rfl))) (se_ix im_str (se_var 2) (se_var 3))) (by rfl))))))).t
  (sb_one (ss_ret se_non))
  sb_nil)
  (sb_one (ss_ret (se_callTy (cm_tuple Z.k) (by rfl) Z.b_tuple (by rfl) (sa_cons (se_lst (sf_lc (own := [("here", 6)]) rfl sc_d54.nd (si_pick (si_pick (si_tup Z.k (se_pick (se_pick (se_ix (im_seq Z.k) (se_var 2) (se_var 3)) (se_get (hr.u1) (se_var 2) (se_var 3) (fun _ _ => rfl))) (se_ix im_str (se_var 2) (se_var 3)))) (si_lst (se_pick (se_pick (se_ix (im_seq Z.k) (se_var 2) (se_var 3)) (se_get (hr.u1) (se_var 2) (se_var 3) (fun _ _ => rfl))) (se_ix im_str (se_var 2) (se_var 3))))) (si_str (se_pick (se_pick (se_ix (im_seq Z.k) (se_var 2) (se_var 3)) (se_get (hr.u1) (se_var 2) (se_var 3) (fun _ _ => rfl))) (se_ix im_str (se_var 2) (se_var 3))))) (show blkC ["k", "line", "ahead", "one", "other", "place", "here"] (defScope s_d54) _ _ = true from by decide +kernel) (fun s H C cl fp => (sg_name 6 sc_d54.nd rfl (by first | exact Or.inl rfl | exact Or.inr rfl))) (fun s H C cl fp => (sts_one (st_cmp (om_neD Z.k hr.u64) (se_var 6) (se_var 5) (nomark _)))) (fun s H C cl fp => (se_var 6)) (by decide))) sa_nil))))))
  sb_nil)
  (sb_one (ss_ret (se_callP ((ok_d53 Z).mono (by decide)) hr (by rfl) Z.n_places_of_first Z.f_d53.kp Z.d_d53 (takes_of rfl rfl rfl rfl) (sa_cons (se_var 0) (sa_cons (se_var 1) sa_nil))))))))
theorem ok_d55 (Z : Fx P w K mg base T ad fd cv bm) : FnOk P w K mg base (L2.CX P w) 5 (ad 27) (fd 27) ["k", "lines"] (spM T 2 (mFn 5 m_d55)) :=
  fn_mk Z.f_d55 sc_d55 fun cdv A outer s H E hr => (sb_cons (ss_set 2 sc_d55.nd rfl (by first | exact Or.inl rfl | exact Or.inr rfl) (se_new (sf_lst sa_nil)))
  (sb_cons (ss_for (passes_of rfl) rfl (si_pick (si_pick (si_tup Z.k (se_var 1)) (si_lst (se_var 1))) (si_str (se_var 1))) (sg_name 3 sc_d55.nd rfl (by first | exact Or.inl rfl | exact Or.inr rfl))
  (sb_cons (ss_set 4 sc_d55.nd rfl (by first | exact Or.inl rfl | exact Or.inr rfl) (se_call ((ok_d54 Z).mono (by decide)) hr (by rfl) Z.n_places_of_line Z.f_d54.kp Z.d_d54 (takes_of rfl rfl rfl rfl) (sa_cons (se_var 0) (sa_cons (se_var 3) (sa_cons (se_var 2) sa_nil)))))
  (sb_cons (ss_if (st_cmp om_isN (se_var 4) se_non (nomark _))
  (sb_one (ss_ret se_non))
  sb_nil)
  (sb_one (ss_expr (se_bm PySem.F.plainAttrs_list PySem.F.slot_list_append PySem.F.type_list_append qt_append ty_list (se_var 2) (sa_cons (se_var 4) sa_nil)))))))
  (sb_one (ss_ret (se_var 2)))))
theorem ok_d58 (Z : Fx P w K mg base T ad fd cv bm) : FnOk P w K mg base (L2.CX P w) 6 (ad 28) (fd 28) ["k", "value"] (spM T 2 (mFn 2 m_d58)) :=
  fn_mk Z.f_d58 sc_d58 fun cdv A outer s H E hr => (sb_cons (ss_if ((sw_or (st_not (st_val (se_callB (cm_isi Z.k (Z.isi rfl)) (by rfl) Z.b_isinstance (by rfl) (sa_cons (se_var 1) (sa_cons (se_glob 2 (by rfl) Z.b_tuple (by rfl) (by rw [Z.g_tuple]; rfl)) sa_nil))))) (sw_or1 (st_not (st_chain om_leI om_leI se_int (se_callB (((cm_len Z.k).or (cm_lenI (by rw [Z.cN]; decide) Z.len5 ((ok_c19m3 Z).mono (by decide)) hr Z.d_c19m3)).or cm_lenS) (by rfl) Z.b_len (by rfl) (sa_cons (se_var 1) sa_nil)) (se_gint (by rfl) Z.n_MOST_LINES_recipes Z.v_MOST_LINES_recipes)))))).t
  (sb_one (ss_ret se_non))
  sb_nil)
  (sb_one (ss_ret (se_callP ((ok_d55 Z).mono (by decide)) hr (by rfl) Z.n_places_of Z.f_d55.kp Z.d_d55 (takes_of rfl rfl rfl rfl) (sa_cons (se_var 0) (sa_cons (se_var 1) sa_nil))))))
theorem ok_d59 (Z : Fx P w K mg base T ad fd cv bm) : FnOk P w K mg base (L2.CX P w) 7 (ad 29) (fd 29) ["recipe", "k"] (spM T 2 (mFn 3 m_d59)) :=
  fn_mk Z.f_d59 sc_d59 fun cdv A outer s H E hr => (sb_cons (ss_expr (se_callP ((ok_d24 Z).mono (by decide)) hr (by rfl) Z.n_check_k Z.f_d24.kp Z.d_d24 (takes_of rfl rfl rfl rfl) (sa_cons (se_var 1) sa_nil)))
  (sb_cons (ss_set 2 sc_d59.nd rfl (by first | exact Or.inl rfl | exact Or.inr rfl) (se_callP ((ok_d58 Z).mono (by decide)) hr (by rfl) Z.n_places_open Z.f_d58.kp Z.d_d58 (takes_of rfl rfl rfl rfl) (sa_cons (se_var 1) (sa_cons (se_var 0) sa_nil))))
  (sb_cons (ss_if (st_cmp om_isN (se_var 2) se_non (nomark _))
  (sb_one (ss_raise 1 rfl (takes_of rfl rfl rfl rfl) PySem.F.excBase_ValueError Z.x1 Z.n_InvalidRecipe Z.k1 (Z.rs1 rfl) (by rfl)))
  sb_nil)
  (sb_one (ss_ret (se_var 2))))))
theorem ok_d62 (Z : Fx P w K mg base T ad fd cv bm) : FnOk P w K mg base (L2.CX P w) 4 (ad 30) (fd 30) ["text"] (spM T 1 (mFn 3 m_d62)) :=
  fn_mk Z.f_d62 sc_d62 fun cdv A outer s H E hr => (sb_cons (ss_if (st_not (st_val (se_callB (cm_isi Z.k (Z.isi rfl)) (by rfl) Z.b_isinstance (by rfl) (sa_cons (se_var 0) (sa_cons (se_glob 5 (by rfl) Z.b_str (by rfl) (by rw [Z.g_str]; rfl)) sa_nil)))))
  (sb_one (ss_raise1 4 rfl (takes_of rfl rfl rfl rfl) (by rw [Z.cN]; rfl) Z.o4 Z.i4 Z.t4 (Z.ok_i4.mono (by decide)) hr Z.d_i4 (passes_call (W := WN E) (takes_of rfl rfl rfl rfl) (fun _ _ _ _ h => h.elim)) (by rfl) Z.n_ParseError se_non))
  sb_nil)
  (sb_cons (ss_set 1 sc_d62.nd rfl (by first | exact Or.inl rfl | exact Or.inr rfl) (se_new (sf_callTy ((cf_list Z.k).or (cf_listD rfl)) (by rfl) Z.b_list (by rfl) (sa_cons (se_lst (sf_split (se_var 0) se_str)) sa_nil))))
  (sb_cons (ss_set 2 sc_d62.nd rfl (by first | exact Or.inl rfl | exact Or.inr rfl) (se_bm0 PySem.F.plainAttrs_list PySem.F.slot_list_pop PySem.F.type_list_pop qt_pop ty_list (se_var 1)))
  (sb_one (ss_ret (se_if (st_cmp (om_eqD Z.k hr.u64) (se_var 2) se_str (nomark _)) (se_var 1) (se_bin (om_add Z.k) (se_var 1) (se_lst (sf_lst (sa_cons se_non sa_nil))))))))))
theorem ok_d63 (Z : Fx P w K mg base T ad fd cv bm) : FnOk P w K mg base (L2.CX P w) 5 (ad 31) (fd 31) ["line"] (spM T 1 (mFn 4 m_d63)) :=
  fn_mk Z.f_d63 sc_d63 fun cdv A outer s H E hr => (sb_cons (ss_if (st_cmp om_isN (se_var 0) se_non (nomark _))
  (sb_one (ss_ret se_non))
  sb_nil)
  (sb_cons (ss_set 1 sc_d63.nd rfl (by first | exact Or.inl rfl | exact Or.inr rfl) (se_lst (sf_split (se_var 0) se_str)))
  (sb_cons (ss_if (st_pick (st_inD hr.u1 (se_pick (se_pick (se_ix (im_seq Z.k) (se_var 1) se_int) (se_get (hr.u1) (se_var 1) se_int (fun _ _ => rfl))) (se_ix im_str (se_var 1) se_int)) (se_gval (by rfl) Z.n_LOTS Z.v_LOTS) (by rfl)) (st_pick (st_cmp (om_inE Z.k) (se_pick (se_pick (se_ix (im_seq Z.k) (se_var 1) se_int) (se_get (hr.u1) (se_var 1) se_int (fun _ _ => rfl))) (se_ix im_str (se_var 1) se_int)) (se_gval (by rfl) Z.n_LOTS Z.v_LOTS) (by rfl)) (st_cmp ((om_in Z.k hr.u65).or (om_inI Z.k Z.eqm5 ((ok_c19m5 Z).mono (by decide)) hr Z.d_c19m5)) (se_pick (se_pick (se_ix (im_seq Z.k) (se_var 1) se_int) (se_get (hr.u1) (se_var 1) se_int (fun _ _ => rfl))) (se_ix im_str (se_var 1) se_int)) (se_gval (by rfl) Z.n_LOTS Z.v_LOTS) (by rfl))))
  (sb_one (lc_stmt (i := 2) (own := [("word", 3)]) set_lst rfl sc_d63.nd rfl rfl (sw_true rfl rfl rfl (by decide +kernel)) (si_pick (si_pick (si_tup Z.k (se_pick (se_pick (se_sl (sm_tup Z.k) (se_var 1) (so_some se_int) so_none) (se_sl sm_str (se_var 1) (so_some se_int) so_none)) (se_lst (sf_sl sf_lstS (se_var 1) (so_some se_int) so_none)))) (si_lst (se_pick (se_pick (se_sl (sm_tup Z.k) (se_var 1) (so_some se_int) so_none) (se_sl sm_str (se_var 1) (so_some se_int) so_none)) (se_lst (sf_sl sf_lstS (se_var 1) (so_some se_int) so_none))))) (si_str (se_pick (se_pick (se_sl (sm_tup Z.k) (se_var 1) (so_some se_int) so_none) (se_sl sm_str (se_var 1) (so_some se_int) so_none)) (se_lst (sf_sl sf_lstS (se_var 1) (so_some se_int) so_none))))) (show blkC ["line", "words", "members", "word"] (defScope s_d63) _ _ = true from by decide +kernel) (fun s H C cl fp => (sg_name 3 sc_d63.nd rfl (by first | exact Or.inl rfl | exact Or.inr rfl))) (fun s H C cl fp => sts_nil) (fun s H C cl fp => (se_callP ((ok_d44 Z).mono (by decide)) hr (by rfl) Z.n_lot_in Z.f_d44.kp Z.d_d44 takes_none5 (sa_cons (se_var 3) sa_nil))) (by decide)))
  (sb_one (lc_stmt (i := 2) (own := [("word", 3)]) set_lst rfl sc_d63.nd rfl rfl (sw_true rfl rfl rfl (by decide +kernel)) (si_pick (si_pick (si_tup Z.k (se_pick (se_pick (se_sl (sm_tup Z.k) (se_var 1) (so_some se_int) so_none) (se_sl sm_str (se_var 1) (so_some se_int) so_none)) (se_lst (sf_sl sf_lstS (se_var 1) (so_some se_int) so_none)))) (si_lst (se_pick (se_pick (se_sl (sm_tup Z.k) (se_var 1) (so_some se_int) so_none) (se_sl sm_str (se_var 1) (so_some se_int) so_none)) (se_lst (sf_sl sf_lstS (se_var 1) (so_some se_int) so_none))))) (si_str (se_pick (se_pick (se_sl (sm_tup Z.k) (se_var 1) (so_some se_int) so_none) (se_sl sm_str (se_var 1) (so_some se_int) so_none)) (se_lst (sf_sl sf_lstS (se_var 1) (so_some se_int) so_none))))) (show blkC ["line", "words", "members", "word"] (defScope s_d63) _ _ = true from by decide +kernel) (fun s H C cl fp => (sg_name 3 sc_d63.nd rfl (by first | exact Or.inl rfl | exact Or.inr rfl))) (fun s H C cl fp => sts_nil) (fun s H C cl fp => (se_callP ((ok_d43 Z).mono (by decide)) hr (by rfl) Z.n_number_in Z.f_d43.kp Z.d_d43 takes_none5 (sa_cons (se_var 3) sa_nil))) (by decide))))
  (sb_one (ss_ret (se_if (st_pick (st_inD hr.u1 se_non (se_var 2) (by rfl)) (st_pick (st_cmp (om_inE Z.k) se_non (se_var 2) (by rfl)) (st_cmp (om_in Z.k hr.u65) se_non (se_var 2) (by rfl)))) se_non (se_callTy (cm_tuple Z.k) (by rfl) Z.b_tuple (by rfl) (sa_cons (se_bin (om_add Z.k) (se_lst (sf_lst (sa_cons (se_pick (se_pick (se_ix (im_seq Z.k) (se_var 1) se_int) (se_get (hr.u1) (se_var 1) se_int (fun _ _ => rfl))) (se_ix im_str (se_var 1) se_int)) sa_nil))) (se_var 2)) sa_nil))))))))
theorem ok_c19m1 (Z : Fx P w K mg base T ad fd cv bm) : FnOk P w K mg base (L2.CX P w) 5 (ad 32) (fd 32) ["self", "point"] (spM T 2 (mFn 2 m_c19m1)) :=
  fn_mk Z.f_c19m1 sc_c19m1 fun cdv A outer s H E hr => (sb_cons (ss_expr (se_callP ((ok_d21 Z).mono (by decide)) hr (by rfl) Z.n_check_point Z.f_d21.kp Z.d_d21 (takes_of rfl rfl rfl rfl) (sa_cons (se_var 0) (sa_cons (se_var 1) sa_nil))))
  (sb_one (ss_ret (se_pick (se_pick (se_ix (im_seq Z.k) (se_fld 5 2 Z.cls5 Z.na5__near (by rw [Z.cN]; decide) (by rw [Z.cN]; rfl) (se_var 0)) (se_var 1)) (se_get (hr.u1) (se_fld 5 2 Z.cls5 Z.na5__near (by rw [Z.cN]; decide) (by rw [Z.cN]; rfl) (se_var 0)) (se_var 1) (fun _ _ => rfl))) (se_ix im_str (se_fld 5 2 Z.cls5 Z.na5__near (by rw [Z.cN]; decide) (by rw [Z.cN]; rfl) (se_var 0)) (se_var 1))))))
theorem ok_d64 (Z : Fx P w K mg base T ad fd cv bm) : FnOk P w K mg base (L2.CX P w) 6 (ad 33) (fd 33) ["web"] (spM T 1 (mFn 5 m_d64)) :=
  fn_mk Z.f_d64 sc_d64 fun cdv A outer s H E hr => (sb_cons (ss_expr (se_callP ((ok_d20 Z).mono (by decide)) hr (by rfl) Z.n_check_web Z.f_d20.kp Z.d_d20 (takes_of rfl rfl rfl rfl) (sa_cons (se_var 0) sa_nil)))
  (sb_cons (ss_set 1 sc_d64.nd rfl (by first | exact Or.inl rfl | exact Or.inr rfl) (se_new (sf_lst (sa_cons (se_callP ((ok_d47 Z).mono (by decide)) hr (by rfl) Z.n_line_text Z.f_d47.kp Z.d_d47 (takes_of rfl rfl rfl rfl) (sa_cons (se_tup (sa_cons se_str (sa_cons (se_fld 5 0 Z.cls5 Z.na5_colours (by rw [Z.cN]; decide) (by rw [Z.cN]; rfl) (se_var 0)) sa_nil))) sa_nil)) sa_nil))))
  (sb_cons (ss_for (passes_of rfl) rfl (si_range1 (by rfl) Z.b_range (sa_cons (se_callB (((cm_len Z.k).or (cm_lenI (by rw [Z.cN]; decide) Z.len5 ((ok_c19m3 Z).mono (by decide)) hr Z.d_c19m3)).or cm_lenS) (by rfl) Z.b_len (by rfl) (sa_cons (se_var 0) sa_nil)) sa_nil)) (sg_name 2 sc_d64.nd rfl (by first | exact Or.inl rfl | exact Or.inr rfl))
  (sb_cons (ss_set 3 sc_d64.nd rfl (by first | exact Or.inl rfl | exact Or.inr rfl) (se_callTy (cm_tuple Z.k) (by rfl) Z.b_tuple (by rfl) (sa_cons (se_lst (sf_lc (own := [("there", 4)]) rfl sc_d64.nd (si_pick (si_pick (si_tup Z.k (se_meth_of sp_callP (by rw [Z.cN]; decide) Z.cls5 Z.me_c19m1 ((ok_c19m1 Z).mono (by decide)) hr Z.d_c19m1 (takes_of rfl rfl rfl rfl) (se_var 0) (sa_cons (se_var 2) sa_nil))) (si_lst (se_meth_of sp_callP (by rw [Z.cN]; decide) Z.cls5 Z.me_c19m1 ((ok_c19m1 Z).mono (by decide)) hr Z.d_c19m1 (takes_of rfl rfl rfl rfl) (se_var 0) (sa_cons (se_var 2) sa_nil)))) (si_str (se_meth_of sp_callP (by rw [Z.cN]; decide) Z.cls5 Z.me_c19m1 ((ok_c19m1 Z).mono (by decide)) hr Z.d_c19m1 (takes_of rfl rfl rfl rfl) (se_var 0) (sa_cons (se_var 2) sa_nil)))) (show blkC ["web", "lines", "point", "greater", "there"] (defScope s_d64) _ _ = true from by decide +kernel) (fun s H C cl fp => (sg_name 4 sc_d64.nd rfl (by first | exact Or.inl rfl | exact Or.inr rfl))) (fun s H C cl fp => (sts_one (st_cmp om_gtI (se_var 4) (se_var 2) (nomark _)))) (fun s H C cl fp => (se_var 4)) (by decide))) sa_nil)))
  (sb_one (ss_if (st_cmp (om_neD Z.k hr.u64) (se_var 3) (se_tup sa_nil) (nomark _))
  (sb_one (ss_expr (se_bm PySem.F.plainAttrs_list PySem.F.slot_list_append PySem.F.type_list_append qt_append ty_list (se_var 1) (sa_cons (se_callP ((ok_d47 Z).mono (by decide)) hr (by rfl) Z.n_line_text Z.f_d47.kp Z.d_d47 (takes_of rfl rfl rfl rfl) (sa_cons (se_tup (sa_cons (se_var 2) (sa_cons (se_var 3) sa_nil))) sa_nil)) sa_nil))))
  sb_nil))))
  (sb_one (ss_ret (se_join se_str (se_var 1)))))))
theorem ok_d65 (Z : Fx P w K mg base T ad fd cv bm) : FnOk P w K mg base (L2.CX P w) 5 (ad 34) (fd 34) ["line"] (spM T 1 (mFn 3 m_d65)) :=
  fn_mk Z.f_d65 sc_d65 fun cdv A outer s H E hr => (sb_cons (ss_set 1 sc_d65.nd rfl (by first | exact Or.inl rfl | exact Or.inr rfl) (se_if (st_cmp om_isN (se_var 0) se_non (nomark _)) (se_lst (sf_lst sa_nil)) (se_lst (sf_split (se_var 0) se_str))))
  (sb_cons (ss_if ((sw_or (st_cmp (om_neD Z.k hr.u64) (se_callB (((cm_len Z.k).or (cm_lenI (by rw [Z.cN]; decide) Z.len5 ((ok_c19m3 Z).mono (by decide)) hr Z.d_c19m3)).or cm_lenS) (by rfl) Z.b_len (by rfl) (sa_cons (se_var 1) sa_nil)) se_int (nomark _)) (sw_or1 (st_cmp (om_neD Z.k hr.u64) (se_pick (se_pick (se_ix (im_seq Z.k) (se_var 1) se_int) (se_get (hr.u1) (se_var 1) se_int (fun _ _ => rfl))) (se_ix im_str (se_var 1) se_int)) se_str (nomark _))))).t
  (sb_one (ss_ret se_non))
  sb_nil)
  (sb_cons (ss_set 2 sc_d65.nd rfl (by first | exact Or.inl rfl | exact Or.inr rfl) (se_callP ((ok_d44 Z).mono (by decide)) hr (by rfl) Z.n_lot_in Z.f_d44.kp Z.d_d44 (takes_of rfl rfl rfl rfl) (sa_cons (se_pick (se_pick (se_ix (im_seq Z.k) (se_var 1) se_int) (se_get (hr.u1) (se_var 1) se_int (fun _ _ => rfl))) (se_ix im_str (se_var 1) se_int)) sa_nil)))
  (sb_one (ss_ret (se_if ((sw_and (st_val (se_callP ((ok_d16 Z).mono (by decide)) hr (by rfl) Z.n_are_colours Z.f_d16.kp Z.d_d16 (takes_of rfl rfl rfl rfl) (sa_cons (se_var 2) sa_nil))) (sw_and1 (st_cmp om_leI (se_callB (((((cm_len Z.k).or (cm_lenI (by rw [Z.cN]; decide) Z.len5 ((ok_c19m3 Z).mono (by decide)) hr Z.d_c19m3)).or cm_lenS)).or cm_lenD) (by rfl) Z.b_len (by rfl) (sa_cons (se_var 2) sa_nil)) (se_gint (by rfl) Z.n_MOST_POINTS Z.v_MOST_POINTS) (nomark _))))).t (se_var 2) se_non))))))
theorem ok_d66 (Z : Fx P w K mg base T ad fd cv bm) : FnOk P w K mg base (L2.CX P w) 5 (ad 35) (fd 35) ["line", "least", "many"] (spM T 3 (mFn 7 m_d66)) :=
  fn_mk Z.f_d66 sc_d66 fun cdv A outer s H E hr => (sb_cons (ss_set 3 sc_d66.nd rfl (by first | exact Or.inl rfl | exact Or.inr rfl) (se_if (st_cmp om_isN (se_var 0) se_non (nomark _)) (se_lst (sf_lst sa_nil)) (se_lst (sf_split (se_var 0) se_str))))
  (sb_cons (ss_if (st_cmp (om_neD Z.k hr.u64) (se_callB (((cm_len Z.k).or (cm_lenI (by rw [Z.cN]; decide) Z.len5 ((ok_c19m3 Z).mono (by decide)) hr Z.d_c19m3)).or cm_lenS) (by rfl) Z.b_len (by rfl) (sa_cons (se_var 3) sa_nil)) se_int (nomark _))
  (sb_one (ss_ret se_non))
  sb_nil)
  (sb_cons (ss_asg (se_tup (sa_cons (se_callP ((ok_d43 Z).mono (by decide)) hr (by rfl) Z.n_number_in Z.f_d43.kp Z.d_d43 (takes_of rfl rfl rfl rfl) (sa_cons (se_pick (se_pick (se_ix (im_seq Z.k) (se_var 3) se_int) (se_get (hr.u1) (se_var 3) se_int (fun _ _ => rfl))) (se_ix im_str (se_var 3) se_int)) sa_nil)) (sa_cons (se_callP ((ok_d44 Z).mono (by decide)) hr (by rfl) Z.n_lot_in Z.f_d44.kp Z.d_d44 (takes_of rfl rfl rfl rfl) (sa_cons (se_pick (se_pick (se_ix (im_seq Z.k) (se_var 3) se_int) (se_get (hr.u1) (se_var 3) se_int (fun _ _ => rfl))) (se_ix im_str (se_var 3) se_int)) sa_nil)) sa_nil))) (sg_tup Z.k rfl (sgs_cons (sg_name 4 sc_d66.nd rfl (by first | exact Or.inl rfl | exact Or.inr rfl)) (sgs_cons (sg_name 5 sc_d66.nd rfl (by first | exact Or.inl rfl | exact Or.inr rfl)) sgs_nil))))
  (sb_cons (ss_if ((sw_or (st_cmp om_isN (se_var 4) se_non (nomark _)) (sw_or (st_cmp (om_ltI.or (om_ltT Z.k hr.u0)) (se_var 4) (se_var 1) (nomark _)) (sw_or (st_cmp om_isN (se_var 5) se_non (nomark _)) (sw_or1 (st_cmp (om_eqD Z.k hr.u64) (se_var 5) (se_tup sa_nil) (nomark _))))))).t
  (sb_one (ss_ret se_non))
  sb_nil)
  (sb_cons (ss_if ((sw_or (st_cmp om_leI (se_pick (se_pick (se_ix (im_seq Z.k) (se_var 5) se_int) (se_get (hr.u1) (se_var 5) se_int (fun _ _ => rfl))) (se_ix im_str (se_var 5) se_int)) (se_var 4) (nomark _)) (sw_or (st_cmp om_geI (se_pick (se_pick (se_ix (im_seq Z.k) (se_var 5) (se_neg se_int)) (se_get (hr.u1) (se_var 5) (se_neg se_int) (fun _ _ => rfl))) (se_ix im_str (se_var 5) (se_neg se_int))) (se_var 2) (nomark _)) (sw_or1 (st_not (st_val (se_callP ((ok_d11 Z).mono (by decide)) hr (by rfl) Z.n_is_ascending Z.f_d11.kp Z.d_d11 (takes_of rfl rfl rfl rfl) (sa_cons (se_var 5) sa_nil)))))))).t
  (sb_one (ss_ret se_non))
  sb_nil)
  (sb_one (ss_ret (se_lst (sf_lc (own := [("there", 6)]) rfl sc_d66.nd (si_pick (si_pick (si_tup Z.k (se_var 5)) (si_lst (se_var 5))) (si_str (se_var 5))) (show blkC ["line", "least", "many", "words", "point", "greater", "there"] (defScope s_d66) _ _ = true from by decide +kernel) (fun s H C cl fp => (sg_name 6 sc_d66.nd rfl (by first | exact Or.inl rfl | exact Or.inr rfl))) (fun s H C cl fp => sts_nil) (fun s H C cl fp => (se_tup (sa_cons (se_var 4) (sa_cons (se_var 6) sa_nil)))) (by decide))))))))))
theorem ok_c19m0 (Z : Fx P w K mg base T ad fd cv bm) : FnOk P w K mg base (L2.CX P w) 5 (ad 36) (fd 36) ["self", "colours", "ties"] (spM T 3 (mFn 4 m_c19m0)) :=
  fn_mk Z.f_c19m0 sc_c19m0 fun cdv A outer s H E hr => (sb_cons (ss_if ((sw_or (st_not (st_val (se_callP ((ok_d16 Z).mono (by decide)) hr (by rfl) Z.n_are_colours Z.f_d16.kp Z.d_d16 (takes_of rfl rfl rfl rfl) (sa_cons (se_var 1) sa_nil)))) (sw_or1 (st_cmp om_gtI (se_callB (((cm_len Z.k).or (cm_lenI (by rw [Z.cN]; decide) Z.len5 ((ok_c19m3 Z).mono (by decide)) hr Z.d_c19m3)).or cm_lenS) (by rfl) Z.b_len (by rfl) (sa_cons (se_var 1) sa_nil)) (se_gint (by rfl) Z.n_MOST_POINTS Z.v_MOST_POINTS) (nomark _))))).t
  (sb_one (ss_raise 0 rfl (takes_of rfl rfl rfl rfl) PySem.F.excBase_ValueError Z.x0 Z.n_InvalidWeb Z.k0 (Z.rs0 rfl) (by rfl)))
  sb_nil)
  (sb_cons (ss_if (st_not (st_val (se_callP ((ok_d17 Z).mono (by decide)) hr (by rfl) Z.n_are_ties Z.f_d17.kp Z.d_d17 (takes_of rfl rfl rfl rfl) (sa_cons (se_var 2) (sa_cons (se_callB (((cm_len Z.k).or (cm_lenI (by rw [Z.cN]; decide) Z.len5 ((ok_c19m3 Z).mono (by decide)) hr Z.d_c19m3)).or cm_lenS) (by rfl) Z.b_len (by rfl) (sa_cons (se_var 1) sa_nil)) sa_nil)))))
  (sb_one (ss_raise 0 rfl (takes_of rfl rfl rfl rfl) PySem.F.excBase_ValueError Z.x0 Z.n_InvalidWeb Z.k0 (Z.rs0 rfl) (by rfl)))
  sb_nil)
  (sb_cons (ss_fld 5 0 Z.cls5 Z.na5_colours (by rw [Z.cN]; decide) (by rw [Z.cN]; decide) (by rw [Z.cN]; rfl) (se_var 0) (se_var 1))
  (sb_cons (ss_fld 5 1 Z.cls5 Z.na5_ties (by rw [Z.cN]; decide) (by rw [Z.cN]; decide) (by rw [Z.cN]; rfl) (se_var 0) (se_var 2))
  (sb_cons (ss_fld 5 2 Z.cls5 Z.na5__near (by rw [Z.cN]; decide) (by rw [Z.cN]; decide) (by rw [Z.cN]; rfl) (se_var 0) (se_callP ((ok_d18 Z).mono (by decide)) hr (by rfl) Z.n_near_points Z.f_d18.kp Z.d_d18 (takes_of rfl rfl rfl rfl) (sa_cons (se_callB (((cm_len Z.k).or (cm_lenI (by rw [Z.cN]; decide) Z.len5 ((ok_c19m3 Z).mono (by decide)) hr Z.d_c19m3)).or cm_lenS) (by rfl) Z.b_len (by rfl) (sa_cons (se_var 1) sa_nil)) (sa_cons (se_var 2) sa_nil))))
  (sb_one (ss_fld 5 3 Z.cls5 Z.na5_degrees (by rw [Z.cN]; decide) (by rw [Z.cN]; decide) (by rw [Z.cN]; rfl) (se_var 0) (se_callTy (cm_tuple Z.k) (by rfl) Z.b_tuple (by rfl) (sa_cons (se_lst (sf_lc (own := [("points", 3)]) rfl sc_c19m0.nd (si_pick (si_pick (si_tup Z.k (se_fld 5 2 Z.cls5 Z.na5__near (by rw [Z.cN]; decide) (by rw [Z.cN]; rfl) (se_var 0))) (si_lst (se_fld 5 2 Z.cls5 Z.na5__near (by rw [Z.cN]; decide) (by rw [Z.cN]; rfl) (se_var 0)))) (si_str (se_fld 5 2 Z.cls5 Z.na5__near (by rw [Z.cN]; decide) (by rw [Z.cN]; rfl) (se_var 0)))) (show blkC ["self", "colours", "ties", "points"] (defScope s_c19m0) _ _ = true from by decide +kernel) (fun s H C cl fp => (sg_name 3 sc_c19m0.nd rfl (by first | exact Or.inl rfl | exact Or.inr rfl))) (fun s H C cl fp => sts_nil) (fun s H C cl fp => (se_callB (((cm_len Z.k).or (cm_lenI (by rw [Z.cN]; decide) Z.len5 ((ok_c19m3 Z).mono (by decide)) hr Z.d_c19m3)).or cm_lenS) (by rfl) Z.b_len (by rfl) (sa_cons (se_var 3) sa_nil))) (by decide))) sa_nil)))))))))
theorem ok_d67 (Z : Fx P w K mg base T ad fd cv bm) : FnOk P w K mg base (L2.CX P w) 7 (ad 37) (fd 37) ["text"] (spM T 1 (mFn 7 m_d67)) :=
  fn_mk Z.f_d67 sc_d67 fun cdv A outer s H E hr => (sb_cons (ss_set 1 sc_d67.nd rfl (by first | exact Or.inl rfl | exact Or.inr rfl) (se_callP ((ok_d62 Z).mono (by decide)) hr (by rfl) Z.n_lines_in Z.f_d62.kp Z.d_d62 (takes_of rfl rfl rfl rfl) (sa_cons (se_var 0) sa_nil)))
  (sb_cons (ss_set 2 sc_d67.nd rfl (by first | exact Or.inl rfl | exact Or.inr rfl) (se_if (st_cmp (om_neD Z.k hr.u64) (se_var 1) (se_lst (sf_lst sa_nil)) (nomark _)) (se_callP ((ok_d65 Z).mono (by decide)) hr (by rfl) Z.n_colours_in Z.f_d65.kp Z.d_d65 (takes_of rfl rfl rfl rfl) (sa_cons (se_pick (se_pick (se_ix (im_seq Z.k) (se_var 1) se_int) (se_get (hr.u1) (se_var 1) se_int (fun _ _ => rfl))) (se_ix im_str (se_var 1) se_int)) sa_nil)) se_non))
  (sb_cons (ss_if (st_cmp om_isN (se_var 2) se_non (nomark _))
  (sb_one (ss_raise1 4 rfl (takes_of rfl rfl rfl rfl) (by rw [Z.cN]; rfl) Z.o4 Z.i4 Z.t4 (Z.ok_i4.mono (by decide)) hr Z.d_i4 (passes_call (W := WN E) (takes_of rfl rfl rfl rfl) (fun _ _ _ _ h => h.elim)) (by rfl) Z.n_ParseError se_int))
  sb_nil)
  (sb_cons (ss_set 3 sc_d67.nd rfl (by first | exact Or.inl rfl | exact Or.inr rfl) (se_new (sf_lst sa_nil)))
  (sb_cons (ss_for (passes_of rfl) rfl (si_range2 (by rfl) Z.b_range (sa_cons se_int (sa_cons (se_callB (((((cm_len Z.k).or (cm_lenI (by rw [Z.cN]; decide) Z.len5 ((ok_c19m3 Z).mono (by decide)) hr Z.d_c19m3)).or cm_lenS)).or cm_lenD) (by rfl) Z.b_len (by rfl) (sa_cons (se_var 1) sa_nil)) sa_nil))) (sg_name 4 sc_d67.nd rfl (by first | exact Or.inl rfl | exact Or.inr rfl))
  (sb_cons (ss_set 5 sc_d67.nd rfl (by first | exact Or.inl rfl | exact Or.inr rfl) (se_if (st_cmp (om_neD Z.k hr.u64) (se_var 3) (se_lst (sf_lst sa_nil)) (nomark _)) (se_bin (om_add Z.k) (se_pick (se_pick (se_ix (im_seq Z.k) (se_pick (se_pick (se_ix (im_seq Z.k) (se_var 3) (se_neg se_int)) (se_get (hr.u1) (se_var 3) (se_neg se_int) (fun _ _ => rfl))) (se_ix im_str (se_var 3) (se_neg se_int))) se_int) (se_get (hr.u1) (se_pick (se_pick (se_ix (im_seq Z.k) (se_var 3) (se_neg se_int)) (se_get (hr.u1) (se_var 3) (se_neg se_int) (fun _ _ => rfl))) (se_ix im_str (se_var 3) (se_neg se_int))) se_int (fun _ _ => rfl))) (se_ix im_str (se_pick (se_pick (se_ix (im_seq Z.k) (se_var 3) (se_neg se_int)) (se_get (hr.u1) (se_var 3) (se_neg se_int) (fun _ _ => rfl))) (se_ix im_str (se_var 3) (se_neg se_int))) se_int)) se_int) se_int))
  (sb_cons (ss_set 6 sc_d67.nd rfl (by first | exact Or.inl rfl | exact Or.inr rfl) (se_callP ((ok_d66 Z).mono (by decide)) hr (by rfl) Z.n_ties_in Z.f_d66.kp Z.d_d66 (takes_of rfl rfl rfl rfl) (sa_cons (se_pick (se_pick (se_ix (im_seq Z.k) (se_var 1) (se_var 4)) (se_get (hr.u1) (se_var 1) (se_var 4) (fun _ _ => rfl))) (se_ix im_str (se_var 1) (se_var 4))) (sa_cons (se_var 5) (sa_cons (se_callB (((cm_len Z.k).or (cm_lenI (by rw [Z.cN]; decide) Z.len5 ((ok_c19m3 Z).mono (by decide)) hr Z.d_c19m3)).or cm_lenS) (by rfl) Z.b_len (by rfl) (sa_cons (se_var 2) sa_nil)) sa_nil)))))
  (sb_cons (ss_if (st_cmp om_isN (se_var 6) se_non (nomark _))
  (sb_one (ss_raise1 4 rfl (takes_of rfl rfl rfl rfl) (by rw [Z.cN]; rfl) Z.o4 Z.i4 Z.t4 (Z.ok_i4.mono (by decide)) hr Z.d_i4 (passes_call (W := WN E) (takes_of rfl rfl rfl rfl) (fun _ _ _ _ h => h.elim)) (by rfl) Z.n_ParseError (se_var 4)))
  sb_nil)
  (sb_one (ss_expr (se_bm PySem.F.plainAttrs_list PySem.F.slot_list_extend PySem.F.type_list_extend qt_extend ty_list (se_var 3) (sa_cons (se_var 6) sa_nil))))))))
  (sb_one (ss_ret (se_make (cl := 5) (nf := 4) (by rw [Z.cN]; rfl) Z.mk5 ((ok_c19m0 Z).mono (by decide)) hr (by rfl) Z.n_Web Z.d_c19m0 (takes_of rfl rfl rfl rfl) (sa_cons (se_var 2) (sa_cons (se_callTy (cm_tuple Z.k) (by rfl) Z.b_tuple (by rfl) (sa_cons (se_var 3) sa_nil)) sa_nil))))))))))
theorem ok_d68 (Z : Fx P w K mg base T ad fd cv bm) : FnOk P w K mg base (L2.CX P w) 9 (ad 38) (fd 38) ["k", "sentence"] (spM T 2 (mFn 3 m_d68)) :=
  fn_mk Z.f_d68 sc_d68 fun cdv A outer s H E hr => (sb_cons (ss_expr (se_callP ((ok_d24 Z).mono (by decide)) hr (by rfl) Z.n_check_k Z.f_d24.kp Z.d_d24 (takes_of rfl rfl rfl rfl) (sa_cons (se_var 0) sa_nil)))
  (sb_cons (ss_expr (se_callP ((ok_d38 Z).mono (by decide)) hr (by rfl) Z.n_check_sentence Z.f_d38.kp Z.d_d38 (takes_of rfl rfl rfl rfl) (sa_cons (se_var 0) (sa_cons (se_var 1) sa_nil))))
  (sb_one (ss_ret (se_join se_str (se_lst (sf_lc (own := [("line", 2)]) rfl sc_d68.nd (si_pick (si_pick (si_tup Z.k (se_var 1)) (si_lst (se_var 1))) (si_str (se_var 1))) (show blkC ["k", "sentence", "line"] (defScope s_d68) _ _ = true from by decide +kernel) (fun s H C cl fp => (sg_name 2 sc_d68.nd rfl (by first | exact Or.inl rfl | exact Or.inr rfl))) (fun s H C cl fp => sts_nil) (fun s H C cl fp => (se_callP ((ok_d47 Z).mono (by decide)) hr (by rfl) Z.n_line_text Z.f_d47.kp Z.d_d47 takes_none5 (sa_cons (se_var 2) sa_nil))) (by decide))))))))
theorem ok_d69 (Z : Fx P w K mg base T ad fd cv bm) : FnOk P w K mg base (L2.CX P w) 6 (ad 39) (fd 39) ["k", "text"] (spM T 2 (mFn 8 m_d69)) :=
  fn_mk Z.f_d69 sc_d69 fun cdv A outer s H E hr => (sb_cons (ss_expr (se_callP ((ok_d24 Z).mono (by decide)) hr (by rfl) Z.n_check_k Z.f_d24.kp Z.d_d24 (takes_of rfl rfl rfl rfl) (sa_cons (se_var 0) sa_nil)))
  (sb_cons (ss_set 2 sc_d69.nd rfl (by first | exact Or.inl rfl | exact Or.inr rfl) (se_new (sf_lst sa_nil)))
  (sb_cons (ss_set 3 sc_d69.nd rfl (by first | exact Or.inl rfl | exact Or.inr rfl) (se_new (sf_lst sa_nil)))
  (sb_cons (ss_for (passes_of rfl) rfl (si_pick (si_enum (by rfl) Z.b_enumerate (sa_cons (se_callP ((ok_d62 Z).mono (by decide)) hr (by rfl) Z.n_lines_in Z.f_d62.kp Z.d_d62 (takes_of rfl rfl rfl rfl) (sa_cons (se_var 1) sa_nil)) sa_nil)) (si_enumT Z.k (by rfl) Z.b_enumerate (sa_cons (se_callP ((ok_d62 Z).mono (by decide)) hr (by rfl) Z.n_lines_in Z.f_d62.kp Z.d_d62 (takes_of rfl rfl rfl rfl) (sa_cons (se_var 1) sa_nil)) sa_nil))) (sg_tup Z.k rfl (sgs_cons (sg_name 4 sc_d69.nd rfl (by first | exact Or.inl rfl | exact Or.inr rfl)) (sgs_cons (sg_name 5 sc_d69.nd rfl (by first | exact Or.inl rfl | exact Or.inr rfl)) sgs_nil)))
  (sb_cons (ss_set 6 sc_d69.nd rfl (by first | exact Or.inl rfl | exact Or.inr rfl) (se_callP ((ok_d63 Z).mono (by decide)) hr (by rfl) Z.n_line_in Z.f_d63.kp Z.d_d63 (takes_of rfl rfl rfl rfl) (sa_cons (se_var 5) sa_nil)))
  (sb_cons (ss_set 7 sc_d69.nd rfl (by first | exact Or.inl rfl | exact Or.inr rfl) (se_if ((sw_or (st_cmp om_geI (se_var 4) (se_gint (by rfl) Z.n_MOST_LINES_recipes Z.v_MOST_LINES_recipes) (nomark _)) (sw_or1 (st_cmp om_isN (se_var 6) se_non (nomark _))))).t se_non (se_call ((ok_d35 Z).mono (by decide)) hr (by rfl) Z.n_bits_of_line Z.f_d35.kp Z.d_d35 (takes_of rfl rfl rfl rfl) (sa_cons (se_var 0) (sa_cons (se_var 6) (sa_cons (se_var 3) sa_nil))))))
  (sb_cons (ss_if (st_cmp om_isN (se_var 7) se_non (nomark _))
  (sb_one (ss_raise1 4 rfl (takes_of rfl rfl rfl rfl) (by rw [Z.cN]; rfl) Z.o4 Z.i4 Z.t4 (Z.ok_i4.mono (by decide)) hr Z.d_i4 (passes_call (W := WN E) (takes_of rfl rfl rfl rfl) (fun _ _ _ _ h => h.elim)) (by rfl) Z.n_ParseError (se_var 4)))
  sb_nil)
  (sb_cons (ss_expr (se_bm PySem.F.plainAttrs_list PySem.F.slot_list_append PySem.F.type_list_append qt_append ty_list (se_var 2) (sa_cons (se_var 6) sa_nil)))
  (sb_one (ss_expr (se_bm PySem.F.plainAttrs_list PySem.F.slot_list_append PySem.F.type_list_append qt_append ty_list (se_var 3) (sa_cons (se_var 7) sa_nil)))))))))
  (sb_cons (ss_if ((sw_or (st_cmp (om_eqD Z.k hr.u64) (se_var 2) (se_lst (sf_lst sa_nil)) (nomark _)) (sw_or1 (st_cmp (om_neD Z.k hr.u64) (se_pick (se_pick (se_ix (im_seq Z.k) (se_var 3) (se_neg se_int)) (se_get (hr.u1) (se_var 3) (se_neg se_int) (fun _ _ => rfl))) (se_ix im_str (se_var 3) (se_neg se_int))) se_int (nomark _))))).t
  (sb_one (ss_raise1 4 rfl (takes_of rfl rfl rfl rfl) (by rw [Z.cN]; rfl) Z.o4 Z.i4 Z.t4 (Z.ok_i4.mono (by decide)) hr Z.d_i4 (passes_call (W := WN E) (takes_of rfl rfl rfl rfl) (fun _ _ _ _ h => h.elim)) (by rfl) Z.n_ParseError (se_callB (((cm_len Z.k).or (cm_lenI (by rw [Z.cN]; decide) Z.len5 ((ok_c19m3 Z).mono (by decide)) hr Z.d_c19m3)).or cm_lenS) (by rfl) Z.b_len (by rfl) (sa_cons (se_var 2) sa_nil))))
  sb_nil)
  (sb_one (ss_ret (se_callTy (cm_tuple Z.k) (by rfl) Z.b_tuple (by rfl) (sa_cons (se_var 2) sa_nil)))))))))
theorem ok_d70 (Z : Fx P w K mg base T ad fd cv bm) : FnOk P w K mg base (L2.CX P w) 8 (ad 40) (fd 40) ["k", "recipe"] (spM T 2 (mFn 3 m_d70)) :=
  fn_mk Z.f_d70 sc_d70 fun cdv A outer s H E hr => (sb_cons (ss_expr (se_callP ((ok_d59 Z).mono (by decide)) hr (by rfl) Z.n_places_checked Z.f_d59.kp Z.d_d59 (takes_of rfl rfl rfl rfl) (sa_cons (se_var 1) (sa_cons (se_var 0) sa_nil))))
  (sb_one (ss_ret (se_join se_str (se_lst (sf_lc (own := [("line", 2)]) rfl sc_d70.nd (si_pick (si_pick (si_tup Z.k (se_var 1)) (si_lst (se_var 1))) (si_str (se_var 1))) (show blkC ["k", "recipe", "line"] (defScope s_d70) _ _ = true from by decide +kernel) (fun s H C cl fp => (sg_name 2 sc_d70.nd rfl (by first | exact Or.inl rfl | exact Or.inr rfl))) (fun s H C cl fp => sts_nil) (fun s H C cl fp => (se_callP ((ok_d47 Z).mono (by decide)) hr (by rfl) Z.n_line_text Z.f_d47.kp Z.d_d47 takes_none5 (sa_cons (se_var 2) sa_nil))) (by decide)))))))
theorem ok_d71 (Z : Fx P w K mg base T ad fd cv bm) : FnOk P w K mg base (L2.CX P w) 6 (ad 41) (fd 41) ["k", "text"] (spM T 2 (mFn 8 m_d71)) :=
  fn_mk Z.f_d71 sc_d71 fun cdv A outer s H E hr => (sb_cons (ss_expr (se_callP ((ok_d24 Z).mono (by decide)) hr (by rfl) Z.n_check_k Z.f_d24.kp Z.d_d24 (takes_of rfl rfl rfl rfl) (sa_cons (se_var 0) sa_nil)))
  (sb_cons (ss_set 2 sc_d71.nd rfl (by first | exact Or.inl rfl | exact Or.inr rfl) (se_new (sf_lst sa_nil)))
  (sb_cons (ss_set 3 sc_d71.nd rfl (by first | exact Or.inl rfl | exact Or.inr rfl) (se_new (sf_lst sa_nil)))
  (sb_cons (ss_for (passes_of rfl) rfl (si_pick (si_enum (by rfl) Z.b_enumerate (sa_cons (se_callP ((ok_d62 Z).mono (by decide)) hr (by rfl) Z.n_lines_in Z.f_d62.kp Z.d_d62 (takes_of rfl rfl rfl rfl) (sa_cons (se_var 1) sa_nil)) sa_nil)) (si_enumT Z.k (by rfl) Z.b_enumerate (sa_cons (se_callP ((ok_d62 Z).mono (by decide)) hr (by rfl) Z.n_lines_in Z.f_d62.kp Z.d_d62 (takes_of rfl rfl rfl rfl) (sa_cons (se_var 1) sa_nil)) sa_nil))) (sg_tup Z.k rfl (sgs_cons (sg_name 4 sc_d71.nd rfl (by first | exact Or.inl rfl | exact Or.inr rfl)) (sgs_cons (sg_name 5 sc_d71.nd rfl (by first | exact Or.inl rfl | exact Or.inr rfl)) sgs_nil)))
  (sb_cons (ss_set 6 sc_d71.nd rfl (by first | exact Or.inl rfl | exact Or.inr rfl) (se_callP ((ok_d63 Z).mono (by decide)) hr (by rfl) Z.n_line_in Z.f_d63.kp Z.d_d63 (takes_of rfl rfl rfl rfl) (sa_cons (se_var 5) sa_nil)))
  (sb_cons (ss_set 7 sc_d71.nd rfl (by first | exact Or.inl rfl | exact Or.inr rfl) (se_if ((sw_or (st_cmp om_geI (se_var 4) (se_gint (by rfl) Z.n_MOST_LINES_recipes Z.v_MOST_LINES_recipes) (nomark _)) (sw_or1 (st_cmp om_isN (se_var 6) se_non (nomark _))))).t se_non (se_call ((ok_d54 Z).mono (by decide)) hr (by rfl) Z.n_places_of_line Z.f_d54.kp Z.d_d54 (takes_of rfl rfl rfl rfl) (sa_cons (se_var 0) (sa_cons (se_var 6) (sa_cons (se_var 3) sa_nil))))))
  (sb_cons (ss_if (st_cmp om_isN (se_var 7) se_non (nomark _))
  (sb_one (ss_raise1 4 rfl (takes_of rfl rfl rfl rfl) (by rw [Z.cN]; rfl) Z.o4 Z.i4 Z.t4 (Z.ok_i4.mono (by decide)) hr Z.d_i4 (passes_call (W := WN E) (takes_of rfl rfl rfl rfl) (fun _ _ _ _ h => h.elim)) (by rfl) Z.n_ParseError (se_var 4)))
  sb_nil)
  (sb_cons (ss_expr (se_bm PySem.F.plainAttrs_list PySem.F.slot_list_append PySem.F.type_list_append qt_append ty_list (se_var 2) (sa_cons (se_var 6) sa_nil)))
  (sb_one (ss_expr (se_bm PySem.F.plainAttrs_list PySem.F.slot_list_append PySem.F.type_list_append qt_append ty_list (se_var 3) (sa_cons (se_var 7) sa_nil)))))))))
  (sb_cons (ss_if (st_cmp (om_eqD Z.k hr.u64) (se_var 2) (se_lst (sf_lst sa_nil)) (nomark _))
  (sb_one (ss_raise1 4 rfl (takes_of rfl rfl rfl rfl) (by rw [Z.cN]; rfl) Z.o4 Z.i4 Z.t4 (Z.ok_i4.mono (by decide)) hr Z.d_i4 (passes_call (W := WN E) (takes_of rfl rfl rfl rfl) (fun _ _ _ _ h => h.elim)) (by rfl) Z.n_ParseError se_int))
  sb_nil)
  (sb_one (ss_ret (se_callTy (cm_tuple Z.k) (by rfl) Z.b_tuple (by rfl) (sa_cons (se_var 2) sa_nil)))))))))
theorem ok_d73 (Z : Fx P w K mg base T ad fd cv bm) : FnOk P w K mg base (L2.CX P w) 3 (ad 42) (fd 42) ["script", "spot"] (spM T 2 (mFn 4 m_d73)) :=
  fn_mk Z.f_d73 sc_d73 fun cdv A outer s H E hr => (sb_cons (ss_set 2 sc_d73.nd rfl (by first | exact Or.inl rfl | exact Or.inr rfl) (se_if (st_cmp (om_ltI.or (om_ltT Z.k hr.u0)) (se_var 1) (se_callB ((cm_len Z.k).or (cm_lenI (by rw [Z.cN]; decide) Z.len5 ((ok_c19m3 Z).mono (by decide)) hr Z.d_c19m3)) (by rfl) Z.b_len (by rfl) (sa_cons (se_var 0) sa_nil)) (nomark _)) (se_callTy cm_int (by rfl) Z.b_int (by rfl) (sa_cons (se_pick (se_ix (im_seq Z.k) (se_var 0) (se_var 1)) (se_get (hr.u1) (se_var 0) (se_var 1) (fun _ _ => rfl))) sa_nil)) (se_bin (om_add Z.k) (se_bin (om_mulW.or (om_repW Z.k)) se_int (se_var 1)) se_int)))
  (sb_cons (ss_set 3 sc_d73.nd rfl (by first | exact Or.inl rfl | exact Or.inr rfl) (se_bin om_modI (se_callTy cm_int (by rfl) Z.b_int (by rfl) (sa_cons (se_callB cm_abs (by rfl) Z.b_abs (by rfl) (sa_cons (se_var 2) sa_nil)) sa_nil)) (se_bin om_powX (se_bin om_powX se_int se_int) se_int)))
  (sb_one (ss_ret (se_new (sf_lst (sa_cons (se_callB (cm_max2 rfl) (by rfl) Z.b_max (by rfl) (sa_cons se_int (sa_cons (se_bin om_subI (se_var 3) (se_bin om_powX se_int se_int)) sa_nil))) (sa_cons (se_bin (om_add Z.k) (se_bin (om_add Z.k) (se_bin (om_add Z.k) (se_bin (om_mulW.or (om_repW Z.k)) (se_bin om_modI (se_callTy cm_int (by rfl) Z.b_int (by rfl) (sa_cons (se_var 3) sa_nil)) se_int) se_int) (se_bin (om_mulW.or (om_repW Z.k)) se_int (se_var 1))) (se_bin (om_mulW.or (om_repW Z.k)) se_int (se_callTy cm_int (by rfl) Z.b_int (by rfl) (sa_cons (se_cmp (om_ltI.or (om_ltT Z.k hr.u0)) (se_var 2) se_int (nomark _)) sa_nil)))) se_int) (sa_cons se_int sa_nil)))))))))
theorem ok_d74 (Z : Fx P w K mg base T ad fd cv bm) : FnOk P w K mg base (L2.CX P w) 1 (ad 43) (fd 43) ["hat", "total"] (spM T 2 (mFn 5 m_d74)) :=
  fn_mk Z.f_d74 sc_d74 fun cdv A outer s H E hr => (sb_cons (ss_if (st_cmp om_gtI (se_pick (se_ix (im_seq Z.k) (se_var 0) se_int) (se_get (hr.u1) (se_var 0) se_int (fun _ _ => rfl))) se_int (nomark _))
  (sb_cons (ss_set 2 sc_d74.nd rfl (by first | exact Or.inl rfl | exact Or.inr rfl) (se_bin om_modI (se_callTy cm_int (by rfl) Z.b_int (by rfl) (sa_cons (se_pick (se_ix (im_seq Z.k) (se_var 0) se_int) (se_get (hr.u1) (se_var 0) se_int (fun _ _ => rfl))) sa_nil)) (se_var 1)))
  (sb_cons (ss_pick (ss_asg (se_bin om_divW (se_pick (se_ix (im_seq Z.k) (se_var 0) se_int) (se_get (hr.u1) (se_var 0) se_int (fun _ _ => rfl))) (se_var 1)) (sg_subL (W := WN E) (se_var 0) se_int)) (ss_put hr.u1 (se_var 0) se_int (se_bin om_divW (se_pick (se_ix (im_seq Z.k) (se_var 0) se_int) (se_get (hr.u1) (se_var 0) se_int (fun _ _ => rfl))) (se_var 1))))
  (sb_one (ss_ret (se_var 2)))))
  sb_nil)
  (sb_cons (ss_pick (ss_asg (se_bin (om_add Z.k) (se_pick (se_ix (im_seq Z.k) (se_var 0) se_int) (se_get (hr.u1) (se_var 0) se_int (fun _ _ => rfl))) se_int) (sg_subL (W := WN E) (se_var 0) se_int)) (ss_put hr.u1 (se_var 0) se_int (se_bin (om_add Z.k) (se_pick (se_ix (im_seq Z.k) (se_var 0) se_int) (se_get (hr.u1) (se_var 0) se_int (fun _ _ => rfl))) se_int)))
  (sb_cons (ss_set 3 sc_d74.nd rfl (by first | exact Or.inl rfl | exact Or.inr rfl) (se_bin om_modI (se_callTy cm_int (by rfl) Z.b_int (by rfl) (sa_cons (se_bin (om_add Z.k) (se_pick (se_ix (im_seq Z.k) (se_var 0) se_int) (se_get (hr.u1) (se_var 0) se_int (fun _ _ => rfl))) (se_bin (om_mulW.or (om_repW Z.k)) se_int (se_pick (se_ix (im_seq Z.k) (se_var 0) se_int) (se_get (hr.u1) (se_var 0) se_int (fun _ _ => rfl))))) sa_nil)) se_int))
  (sb_cons (ss_set 4 sc_d74.nd rfl (by first | exact Or.inl rfl | exact Or.inr rfl) (se_bin (om_add Z.k) (se_bin (om_mulW.or (om_repW Z.k)) (se_bin om_modI (se_callTy cm_int (by rfl) Z.b_int (by rfl) (sa_cons (se_bin (om_add Z.k) (se_bin (om_mulW.or (om_repW Z.k)) (se_var 3) (se_var 3)) (se_bin (om_mulW.or (om_repW Z.k)) se_int (se_pick (se_ix (im_seq Z.k) (se_var 0) se_int) (se_get (hr.u1) (se_var 0) se_int (fun _ _ => rfl))))) sa_nil)) se_int) se_int) (se_var 3)))
  (sb_one (ss_ret (se_bin om_modI (se_callTy cm_int (by rfl) Z.b_int (by rfl) (sa_cons (se_bin om_divW (se_var 4) se_int) sa_nil)) (se_var 1))))))))
theorem ok_d75 (Z : Fx P w K mg base T ad fd cv bm) : FnOk P w K mg base (L2.CX P w) 3 (ad 44) (fd 44) ["items", "turn"] (spM T 2 (mFn 2 m_d75)) :=
  fn_mk Z.f_d75 sc_d75 fun cdv A outer s H E hr => (sb_one (ss_ret (se_pick (se_ix (im_seq Z.k) (se_var 0) (se_bin om_modI (se_callTy cm_int (by rfl) Z.b_int (by rfl) (sa_cons (se_var 1) sa_nil)) (se_callB ((cm_len Z.k).or (cm_lenI (by rw [Z.cN]; decide) Z.len5 ((ok_c19m3 Z).mono (by decide)) hr Z.d_c19m3)) (by rfl) Z.b_len (by rfl) (sa_cons (se_var 0) sa_nil)))) (se_get (hr.u1) (se_var 0) (se_bin om_modI (se_callTy cm_int (by rfl) Z.b_int (by rfl) (sa_cons (se_var 1) sa_nil)) (se_callB ((cm_len Z.k).or (cm_lenI (by rw [Z.cN]; decide) Z.len5 ((ok_c19m3 Z).mono (by decide)) hr Z.d_c19m3)) (by rfl) Z.b_len (by rfl) (sa_cons (se_var 0) sa_nil))) (fun _ _ => rfl)))))
theorem met_call (Z : Fx P w K mg base T ad fd cv bm) {N : List Str} {q : Str} {sc : Scope} {f : Addr} {A : Around} {outer : List PySem.Env} {s : Shared} {H : Hp} {E : XK} {W : WX} {k : Nat} {cdv : Value} {c P0 : Addr} {params : Arguments} {body : Expr} {scope : Scope} {lpos p pos : Pos} {mb : ME}
    (gd : A.guards = some []) (hr : Room (k + 2) (A.deeper (envOfC q sc s.heap.objs.size f cdv))) (TB : LamX.TabB base mg c P0) (hcode : cdv = .ref c) (hmT : (P0, (q ++ ".<locals>.") ++ "<lambda>") ∈ T.tb) (hu : ∀ p ∈ T.tb, p.1 = P0 → p.2 = (q ++ ".<locals>.") ++ "<lambda>") (hg : Gl (cxOf (L2.CX P w) P w K mg base N q sc f cdv A outer s H E) "_law_met")
    (L : LamX.LamS sc scope) (hdef : defaultsOf params (cxOf (L2.CX P w) P w K mg base N q sc f cdv A outer s H E).env = ([], [])) (hbind : ∀ (q : Str) (cl : List (Str × Addr)) (pm cv ctv : Value), bindArgs (PySem.W.kla_fn "<lambda>" q params body scope cl pm cv ctv) ⟨[], []⟩ = pure [])
    (hlam : ∀ (A2 : Around) (o2 : List PySem.Env) (s2 : Shared) (H2 : Hp) (E2 : XK) (f2 c2 : Addr), Room k (A2.deeper (LamX.lamEnv (cxOf (L2.CX P w) P w K mg base N q sc f cdv A outer s H E) scope s2.heap.objs.size f2 c2)) → SE (LamX.lamCx (cxOf (L2.CX P w) P w K mg base N q sc f cdv A outer s H E) A2 o2 s2 H2 E2 scope f2 c2) T (WN E2) body mb) :
    SE (cxOf (L2.CX P w) P w K mg base N q sc f cdv A outer s H E) T W (.Call (.Name "_law_met" p) [.Lambda params body scope lpos] [] pos) (mMet 2 5 metL metF mb) :=
  se_met Z.ex Z.k Z.apart Z.f_d76 rfl sc_d76 rfl (Or.inl rfl)
    (fun cdg s2 H2 => (.plain (by decide) ⟨by rfl, by decide, .inl Z.n_InvalidWeb⟩ (fun q ob pn => (sb_one (ss_ret se_str))) (.plain (by decide) ⟨by rfl, by decide, .inl Z.n_InvalidSentence⟩ (fun q ob pn => (sb_one (ss_ret se_str))) (.plain (by decide) ⟨by rfl, by decide, .inl Z.n_InvalidRecipe⟩ (fun q ob pn => (sb_one (ss_ret se_str))) (.bound (by decide) ⟨by rfl, by decide, .inl Z.n_InvalidNumber⟩ rfl rfl (fun q dx ob pn hz hf => (sb_one (ss_ret (se_bin (om_add Z.k) se_str (se_callB (cm_reprD Z.k (by exact gd) (by exact uns64 hr _ _)) (by rfl) Z.b_repr (by rfl) (sa_cons (se_exf (cl := 3) (i := 0) (Z.e3) hz hf (se_var 1) (by rw [Z.cN]; decide) (by rw [Z.cN]; rfl)) sa_nil)))))) (.bound (by decide) ⟨by rfl, by decide, .inl Z.n_ParseError⟩ rfl rfl (fun q dx ob pn hz hf => (sb_one (ss_ret (se_bin (om_add Z.k) se_str (se_callB (cm_reprD Z.k (by exact gd) (by exact uns64 hr _ _)) (by rfl) Z.b_repr (by rfl) (sa_cons (se_exf (cl := 4) (i := 0) (Z.e4) hz hf (se_var 1) (by rw [Z.cN]; decide) (by rw [Z.cN]; rfl)) sa_nil)))))) .nil))))))
    (fun cdg s2 H2 => (sb_one (ss_ret se_str))) rfl hg Z.n__law_met Z.d_d76 TB hcode hmT hu hr L hdef hbind hlam
theorem met_callX (Z : Fx P w K mg base T ad fd cv bm) {X : Cx} {W : WX} {k : Nat} {c P0 : Addr} {params : Arguments} {body : Expr} {scope : Scope} {lpos p pos : Pos} {mb : ME}
    (e : X.prog = P ∧ X.w = w ∧ X.K = K ∧ X.mg = mg ∧ X.base = base) (gd : X.A.guards = some []) (hr : Room (k + 2) X.A) (TB : LamX.TabB base mg c P0) (hcode : X.env.code = .ref c) (hmT : (P0, X.env.qual ++ "<lambda>") ∈ T.tb) (hu : ∀ p ∈ T.tb, p.1 = P0 → p.2 = X.env.qual ++ "<lambda>") (hg : Gl X "_law_met")
    (L : LamX.LamS X.env.scope scope) (hdef : defaultsOf params X.env = ([], [])) (hbind : ∀ (q : Str) (cl : List (Str × Addr)) (pm cv ctv : Value), bindArgs (PySem.W.kla_fn "<lambda>" q params body scope cl pm cv ctv) ⟨[], []⟩ = pure [])
    (hlam : ∀ (A2 : Around) (o2 : List PySem.Env) (s2 : Shared) (H2 : Hp) (E2 : XK) (f2 c2 : Addr), Room k (A2.deeper (LamX.lamEnv X scope s2.heap.objs.size f2 c2)) → SE (LamX.lamCx X A2 o2 s2 H2 E2 scope f2 c2) T (WN E2) body mb) :
    SE X T W (.Call (.Name "_law_met" p) [.Lambda params body scope lpos] [] pos) (mMet 2 5 metL metF mb) := by
  obtain ⟨rfl, rfl, rfl, rfl, rfl⟩ := e
  exact se_met Z.ex Z.k Z.apart Z.f_d76 rfl sc_d76 rfl (Or.inl rfl)
    (fun cdg s2 H2 => (.plain (by decide) ⟨by rfl, by decide, .inl Z.n_InvalidWeb⟩ (fun q ob pn => (sb_one (ss_ret se_str))) (.plain (by decide) ⟨by rfl, by decide, .inl Z.n_InvalidSentence⟩ (fun q ob pn => (sb_one (ss_ret se_str))) (.plain (by decide) ⟨by rfl, by decide, .inl Z.n_InvalidRecipe⟩ (fun q ob pn => (sb_one (ss_ret se_str))) (.bound (by decide) ⟨by rfl, by decide, .inl Z.n_InvalidNumber⟩ rfl rfl (fun q dx ob pn hz hf => (sb_one (ss_ret (se_bin (om_add Z.k) se_str (se_callB (cm_reprD Z.k (by exact gd) (by exact uns64 hr _ _)) (by rfl) Z.b_repr (by rfl) (sa_cons (se_exf (cl := 3) (i := 0) (Z.e3) hz hf (se_var 1) (by rw [Z.cN]; decide) (by rw [Z.cN]; rfl)) sa_nil)))))) (.bound (by decide) ⟨by rfl, by decide, .inl Z.n_ParseError⟩ rfl rfl (fun q dx ob pn hz hf => (sb_one (ss_ret (se_bin (om_add Z.k) se_str (se_callB (cm_reprD Z.k (by exact gd) (by exact uns64 hr _ _)) (by rfl) Z.b_repr (by rfl) (sa_cons (se_exf (cl := 4) (i := 0) (Z.e4) hz hf (se_var 1) (by rw [Z.cN]; decide) (by rw [Z.cN]; rfl)) sa_nil)))))) .nil))))))
    (fun cdg s2 H2 => (sb_one (ss_ret se_str))) rfl hg Z.n__law_met Z.d_d76 TB hcode hmT hu hr L hdef hbind hlam
theorem met_callB (Z : Fx P w K mg base T ad fd cv bm) {N : List Str} {q : Str} {sc : Scope} {f : Addr} {A : Around} {outer : List PySem.Env} {s : Shared} {H : Hp} {E : XK} {s1 : Shared} {H1 : Hp} {sc1 : Scope} {cl1 : List (Str × Addr)} {C1 : Addr} {fp1 : List Addr} {W : WX} {k : Nat} {cdv : Value} {c P0 : Addr} {params : Arguments} {body : Expr} {scope : Scope} {lpos p pos : Pos} {mb : ME}
    (gd : A.guards = some []) (hr : Room (k + 2) (A.deeper (envOfC q sc s.heap.objs.size f cdv))) (TB : LamX.TabB base mg c P0) (hcode : cdv = .ref c) (hmT : (P0, (q ++ ".<locals>.") ++ "<lambda>") ∈ T.tb) (hu : ∀ p ∈ T.tb, p.1 = P0 → p.2 = (q ++ ".<locals>.") ++ "<lambda>") (hg : Gl ((cxOf (L2.CX P w) P w K mg base N q sc f cdv A outer s H E).blk s1 H1 sc1 (compEnvC sc1 cl1 C1 (cxOf (L2.CX P w) P w K mg base N q sc f cdv A outer s H E).env) fp1) "_law_met")
    (L : LamX.LamS (relS sc1 sc) scope) (hdef : defaultsOf params ((cxOf (L2.CX P w) P w K mg base N q sc f cdv A outer s H E).blk s1 H1 sc1 (compEnvC sc1 cl1 C1 (cxOf (L2.CX P w) P w K mg base N q sc f cdv A outer s H E).env) fp1).env = ([], [])) (hbind : ∀ (q : Str) (cl : List (Str × Addr)) (pm cv ctv : Value), bindArgs (PySem.W.kla_fn "<lambda>" q params body scope cl pm cv ctv) ⟨[], []⟩ = pure [])
    (hlam : ∀ (A2 : Around) (o2 : List PySem.Env) (s2 : Shared) (H2 : Hp) (E2 : XK) (f2 c2 : Addr), Room k (A2.deeper (LamX.lamEnv ((cxOf (L2.CX P w) P w K mg base N q sc f cdv A outer s H E).blk s1 H1 sc1 (compEnvC sc1 cl1 C1 (cxOf (L2.CX P w) P w K mg base N q sc f cdv A outer s H E).env) fp1) scope s2.heap.objs.size f2 c2)) → SE (LamX.lamCx ((cxOf (L2.CX P w) P w K mg base N q sc f cdv A outer s H E).blk s1 H1 sc1 (compEnvC sc1 cl1 C1 (cxOf (L2.CX P w) P w K mg base N q sc f cdv A outer s H E).env) fp1) A2 o2 s2 H2 E2 scope f2 c2) T (WN E2) body mb) :
    SE ((cxOf (L2.CX P w) P w K mg base N q sc f cdv A outer s H E).blk s1 H1 sc1 (compEnvC sc1 cl1 C1 (cxOf (L2.CX P w) P w K mg base N q sc f cdv A outer s H E).env) fp1) T W (.Call (.Name "_law_met" p) [.Lambda params body scope lpos] [] pos) (mMet 2 5 metL metF mb) :=
  met_callX Z ⟨rfl, rfl, rfl, rfl, rfl⟩ gd hr TB hcode hmT hu hg L hdef hbind hlam
theorem okG_d77 (Z : Fx P w K mg base T ad fd cv bm) (TB_law_right : LamX.TabB base mg (ad 51) (ad 52)) (TB_law_webs_right : LamX.TabB base mg (ad 53) (ad 54)) (TBlaw : LamX.TabB base mg (ad 55) (ad 56)) : FnG P w K mg base (L2.CX P w) 12 (ad 45) (fd 45) ["turn"] (spM T 1 (mFn 11 m_d77)) :=
  have TB := TB_law_right
  have huT : ∀ p ∈ T.tb, p.1 = ad 52 → p.2 = (("_law_right" : Str) ++ ".<locals>.") ++ "<lambda>" := by
    rw [Z.tb]
    intro p hp e
    simp only [List.mem_cons, List.not_mem_nil, or_false] at hp
    rcases hp with rfl | rfl | rfl
    · rfl
    · exact absurd e.symm Z.tne0_1
    · exact absurd e.symm Z.tne0_2
  fg_mkC Z.f_d77 sc_d77 Z.co__law_right fun A outer s H E gd hr => (sb_cons (ss_set 1 sc_d77.nd rfl (by first | exact Or.inl rfl | exact Or.inr rfl) (se_callP ((ok_d75 Z).mono (by decide)) hr (by rfl) Z.n__law_fa_turned Z.f_d75.kp Z.d_d75 (takes_of rfl rfl rfl rfl) (sa_cons (se_lst (sf_lst (sa_cons se_non (sa_cons se_int (sa_cons (se_tup sa_nil) (sa_cons (se_tup (sa_cons (se_tup (sa_cons se_int sa_nil)) (sa_cons (se_tup sa_nil) sa_nil))) (sa_cons se_str (sa_cons (se_dct sd_nil) (sa_cons (se_lst (sf_lst (sa_cons (se_make (cl := 5) (nf := 4) (by rw [Z.cN]; rfl) Z.mk5 ((ok_c19m0 Z).mono (by decide)) hr (by rfl) Z.n_Web Z.d_c19m0 (takes_of rfl rfl rfl rfl) (sa_cons (se_tup sa_nil) (sa_cons (se_tup sa_nil) sa_nil))) sa_nil))) (sa_cons se_bl sa_nil)))))))))) (sa_cons (se_var 0) sa_nil))))
  (sb_cons (ss_set 2 sc_d77.nd rfl (by first | exact Or.inl rfl | exact Or.inr rfl) (se_callP ((ok_d75 Z).mono (by decide)) hr (by rfl) Z.n__law_fa_turned Z.f_d75.kp Z.d_d75 (takes_of rfl rfl rfl rfl) (sa_cons (se_lst (sf_lst (sa_cons se_non (sa_cons se_int (sa_cons se_int (sa_cons se_bl (sa_cons se_str (sa_cons (se_tup (sa_cons se_int sa_nil)) (sa_cons (se_neg se_int) (sa_cons (se_bin om_powX se_int se_int) sa_nil)))))))))) (sa_cons (se_var 0) sa_nil))))
  (sb_cons (ss_set 3 sc_d77.nd rfl (by first | exact Or.inl rfl | exact Or.inr rfl) (se_callP ((ok_d75 Z).mono (by decide)) hr (by rfl) Z.n__law_fa_turned Z.f_d75.kp Z.d_d75 (takes_of rfl rfl rfl rfl) (sa_cons (se_lst (sf_lst (sa_cons se_non (sa_cons se_int (sa_cons (se_tup (sa_cons se_str sa_nil)) (sa_cons (se_lst (sf_lst (sa_cons se_str sa_nil))) (sa_cons se_bl (sa_cons (se_dct sd_nil) (sa_cons (se_bin om_powX se_int se_int) sa_nil))))))))) (sa_cons (se_var 0) sa_nil))))
  (sb_cons (ss_set 4 sc_d77.nd rfl (by first | exact Or.inl rfl | exact Or.inr rfl) (se_lst (sf_lst (sa_cons se_non (sa_cons (se_tup sa_nil) (sa_cons se_str (sa_cons (se_lst (sf_lst (sa_cons (se_tup (sa_cons se_str (sa_cons (se_tup sa_nil) sa_nil))) sa_nil))) (sa_cons (se_tup (sa_cons (se_tup (sa_cons se_str (sa_cons (se_tup (sa_cons se_int sa_nil)) sa_nil))) sa_nil)) (sa_cons (se_tup (sa_cons (se_tup (sa_cons se_str (sa_cons se_int (sa_cons se_int sa_nil)))) sa_nil)) (sa_cons (se_tup (sa_cons (se_tup (sa_cons se_str (sa_cons se_int (sa_cons se_int sa_nil)))) sa_nil)) (sa_cons (se_tup (sa_cons (se_tup (sa_cons se_str (sa_cons se_int (sa_cons se_int sa_nil)))) sa_nil)) sa_nil)))))))))))
  (sb_cons (ss_set 4 sc_d77.nd rfl (by first | exact Or.inl rfl | exact Or.inr rfl) (se_bin (om_add Z.k) (se_var 4) (se_lst (sf_lst (sa_cons (se_tup (sa_cons (se_tup (sa_cons se_str (sa_cons se_int (sa_cons se_int (sa_cons se_int sa_nil))))) sa_nil)) (sa_cons (se_tup (sa_cons (se_tup (sa_cons se_str (sa_cons (se_tup sa_nil) sa_nil))) (sa_cons (se_tup (sa_cons se_str (sa_cons se_int (sa_cons se_int (sa_cons se_int sa_nil))))) sa_nil))) sa_nil))))))
  (sb_cons (ss_set 4 sc_d77.nd rfl (by first | exact Or.inl rfl | exact Or.inr rfl) (se_bin (om_add Z.k) (se_var 4) (se_lst (sf_lst (sa_cons (se_tup (sa_cons (se_tup (sa_cons se_str (sa_cons (se_tup sa_nil) sa_nil))) (sa_cons (se_tup (sa_cons se_str (sa_cons se_int sa_nil))) sa_nil))) (sa_cons (se_tup (sa_cons (se_tup (sa_cons se_str (sa_cons se_int (sa_cons se_int sa_nil)))) sa_nil)) sa_nil))))))
  (sb_cons (ss_set 4 sc_d77.nd rfl (by first | exact Or.inl rfl | exact Or.inr rfl) (se_callP ((ok_d75 Z).mono (by decide)) hr (by rfl) Z.n__law_fa_turned Z.f_d75.kp Z.d_d75 (takes_of rfl rfl rfl rfl) (sa_cons (se_bin (om_add Z.k) (se_var 4) (se_lst (sf_lst (sa_cons (se_tup (sa_cons (se_tup (sa_cons se_str sa_nil)) sa_nil)) (sa_cons (se_tup (sa_cons se_str (sa_cons (se_lst (sf_lst sa_nil)) sa_nil))) (sa_cons (se_tup (sa_cons (se_tup (sa_cons se_str (sa_cons (se_tup sa_nil) sa_nil))) (sa_cons (se_tup (sa_cons se_str (sa_cons se_bl (sa_cons se_int (sa_cons se_int sa_nil))))) sa_nil))) (sa_cons (se_dct sd_nil) (sa_cons se_int sa_nil)))))))) (sa_cons (se_var 0) sa_nil))))
  (sb_cons (ss_set 5 sc_d77.nd rfl (by first | exact Or.inl rfl | exact Or.inr rfl) (se_lst (sf_lst (sa_cons se_non (sa_cons (se_tup sa_nil) (sa_cons se_str (sa_cons (se_lst (sf_lst (sa_cons (se_tup (sa_cons se_str sa_nil)) sa_nil))) (sa_cons (se_tup (sa_cons (se_tup (sa_cons se_str (sa_cons se_int (sa_cons se_int sa_nil)))) sa_nil)) (sa_cons (se_tup (sa_cons (se_tup (sa_cons se_str (sa_cons se_int (sa_cons se_int sa_nil)))) sa_nil)) (sa_cons (se_tup (sa_cons (se_tup (sa_cons se_str (sa_cons se_int (sa_cons se_int sa_nil)))) sa_nil)) (sa_cons (se_tup (sa_cons (se_tup (sa_cons se_str (sa_cons se_int (sa_cons se_int sa_nil)))) sa_nil)) sa_nil)))))))))))
  (sb_cons (ss_set 5 sc_d77.nd rfl (by first | exact Or.inl rfl | exact Or.inr rfl) (se_bin (om_add Z.k) (se_var 5) (se_lst (sf_lst (sa_cons (se_tup (sa_cons (se_tup (sa_cons se_str sa_nil)) (sa_cons (se_tup (sa_cons se_str (sa_cons se_int (sa_cons se_int sa_nil)))) sa_nil))) (sa_cons (se_tup (sa_cons (se_tup (sa_cons se_str (sa_cons se_int sa_nil))) sa_nil)) (sa_cons (se_tup (sa_cons (se_tup (sa_cons se_str (sa_cons se_bl sa_nil))) sa_nil)) sa_nil)))))))
  (sb_cons (ss_set 5 sc_d77.nd rfl (by first | exact Or.inl rfl | exact Or.inr rfl) (se_bin (om_add Z.k) (se_var 5) (se_lst (sf_lst (sa_cons (se_tup (sa_cons (se_tup (sa_cons se_str (sa_cons (se_tup sa_nil) sa_nil))) sa_nil)) (sa_cons (se_tup (sa_cons (se_tup (sa_cons se_str (sa_cons se_int sa_nil))) sa_nil)) (sa_cons (se_tup (sa_cons se_str sa_nil)) sa_nil)))))))
  (sb_cons (ss_set 5 sc_d77.nd rfl (by first | exact Or.inl rfl | exact Or.inr rfl) (se_callP ((ok_d75 Z).mono (by decide)) hr (by rfl) Z.n__law_fa_turned Z.f_d75.kp Z.d_d75 (takes_of rfl rfl rfl rfl) (sa_cons (se_bin (om_add Z.k) (se_var 5) (se_lst (sf_lst (sa_cons (se_tup (sa_cons (se_tup (sa_cons se_str (sa_cons se_int (sa_cons (se_neg se_int) sa_nil)))) sa_nil)) (sa_cons (se_tup (sa_cons (se_tup (sa_cons se_str (sa_cons se_int sa_nil))) (sa_cons (se_tup (sa_cons se_str (sa_cons se_int (sa_cons se_int sa_nil)))) sa_nil))) (sa_cons (se_dct sd_nil) (sa_cons se_int sa_nil))))))) (sa_cons (se_var 0) sa_nil))))
  (sb_cons (ss_set 6 sc_d77.nd rfl (by first | exact Or.inl rfl | exact Or.inr rfl) (se_new (sf_lst (sa_cons (met_call Z (by exact gd) hr TB rfl (by rw [Z.tb]; first | exact List.mem_cons_self | exact List.mem_cons_of_mem _ List.mem_cons_self | exact List.mem_cons_of_mem _ (List.mem_cons_of_mem _ List.mem_cons_self)) huT (by rfl) (LamX.lamS_by (by decide +kernel)) (by rfl) (fun _ _ _ _ _ => rfl) (fun A2 o2 s2 H2 E2 f2 c2 hr => (se_callP ((ok_d64 Z).mono (by decide)) hr (by rfl) Z.n_web_text Z.f_d64.kp Z.d_d64 (takes_of rfl rfl rfl rfl) (sa_cons (se_var 1) sa_nil)))) sa_nil))))
  (sb_cons (ss_expr (se_bm PySem.F.plainAttrs_list PySem.F.slot_list_append PySem.F.type_list_append qt_append ty_list (se_var 6) (sa_cons (met_call Z (by exact gd) hr TB rfl (by rw [Z.tb]; first | exact List.mem_cons_self | exact List.mem_cons_of_mem _ List.mem_cons_self | exact List.mem_cons_of_mem _ (List.mem_cons_of_mem _ List.mem_cons_self)) huT (by rfl) (LamX.lamS_by (by decide +kernel)) (by rfl) (fun _ _ _ _ _ => rfl) (fun A2 o2 s2 H2 E2 f2 c2 hr => (se_callP ((ok_d67 Z).mono (by decide)) hr (by rfl) Z.n_read_web Z.f_d67.kp Z.d_d67 (takes_of rfl rfl rfl rfl) (sa_cons (se_var 3) sa_nil)))) sa_nil)))
  (sb_cons (ss_set 7 sc_d77.nd rfl (by first | exact Or.inl rfl | exact Or.inr rfl) (se_lst (sf_lst (sa_cons se_str (sa_cons se_str sa_nil)))))
  (sb_cons (ss_for (passes_of rfl) rfl (si_pick (si_tup Z.k (se_tup (sa_cons (se_tup (sa_cons (se_glo 47 (by rfl) Z.n_sentence_text (by rw [Z.g_sentence_text]; rfl)) (sa_cons (se_var 4) (sa_cons se_str sa_nil)))) (sa_cons (se_tup (sa_cons (se_glo 49 (by rfl) Z.n_recipe_text (by rw [Z.g_recipe_text]; rfl)) (sa_cons (se_var 5) (sa_cons se_str sa_nil)))) sa_nil)))) (si_lst (se_tup (sa_cons (se_tup (sa_cons (se_glo 47 (by rfl) Z.n_sentence_text (by rw [Z.g_sentence_text]; rfl)) (sa_cons (se_var 4) (sa_cons se_str sa_nil)))) (sa_cons (se_tup (sa_cons (se_glo 49 (by rfl) Z.n_recipe_text (by rw [Z.g_recipe_text]; rfl)) (sa_cons (se_var 5) (sa_cons se_str sa_nil)))) sa_nil))))) (sg_tup Z.k rfl (sgs_cons (sg_name 8 sc_d77.nd rfl (by first | exact Or.inl rfl | exact Or.inr rfl)) (sgs_cons (sg_name 9 sc_d77.nd rfl (by first | exact Or.inl rfl | exact Or.inr rfl)) (sgs_cons (sg_name 10 sc_d77.nd rfl (by first | exact Or.inl rfl | exact Or.inr rfl)) sgs_nil))))
  (sb_cons (ss_expr (se_bm PySem.F.plainAttrs_list PySem.F.slot_list_append PySem.F.type_list_append qt_append ty_list (se_var 6) (sa_cons (met_call Z (by exact gd) hr TB rfl (by rw [Z.tb]; first | exact List.mem_cons_self | exact List.mem_cons_of_mem _ List.mem_cons_self | exact List.mem_cons_of_mem _ (List.mem_cons_of_mem _ List.mem_cons_self)) huT (by rfl) (LamX.lamS_by (by decide +kernel)) (by rfl) (fun _ _ _ _ _ => rfl) (fun A2 o2 s2 H2 E2 f2 c2 hr => (se_callV (tb_cons Z.g_read_recipe ((ok_d71 Z).mono (by decide)) Z.f_d71.kp Z.d_d71 (tb_cons Z.g_read_sentence ((ok_d69 Z).mono (by decide)) Z.f_d69.kp Z.d_d69 (tb_cons Z.g_recipe_text ((ok_d70 Z).mono (by decide)) Z.f_d70.kp Z.d_d70 (tb_cons Z.g_sentence_text ((ok_d68 Z).mono (by decide)) Z.f_d68.kp Z.d_d68 tb_nil)))) hr rfl (by first | exact Or.inl rfl | exact Or.inr (Or.inl rfl) | exact Or.inr (Or.inr rfl)) (takes_of rfl rfl rfl rfl) (sa_cons (se_var 2) (sa_cons (se_var 9) sa_nil))))) sa_nil)))
  (sb_cons (ss_expr (se_bm PySem.F.plainAttrs_list PySem.F.slot_list_append PySem.F.type_list_append qt_append ty_list (se_var 6) (sa_cons (met_call Z (by exact gd) hr TB rfl (by rw [Z.tb]; first | exact List.mem_cons_self | exact List.mem_cons_of_mem _ List.mem_cons_self | exact List.mem_cons_of_mem _ (List.mem_cons_of_mem _ List.mem_cons_self)) huT (by rfl) (LamX.lamS_by (by decide +kernel)) (by rfl) (fun _ _ _ _ _ => rfl) (fun A2 o2 s2 H2 E2 f2 c2 hr => (se_callV (tb_cons Z.g_read_recipe ((ok_d71 Z).mono (by decide)) Z.f_d71.kp Z.d_d71 (tb_cons Z.g_read_sentence ((ok_d69 Z).mono (by decide)) Z.f_d69.kp Z.d_d69 (tb_cons Z.g_recipe_text ((ok_d70 Z).mono (by decide)) Z.f_d70.kp Z.d_d70 (tb_cons Z.g_sentence_text ((ok_d68 Z).mono (by decide)) Z.f_d68.kp Z.d_d68 tb_nil)))) hr rfl (by first | exact Or.inl rfl | exact Or.inr (Or.inl rfl) | exact Or.inr (Or.inr rfl)) (takes_of rfl rfl rfl rfl) (sa_cons se_int (sa_cons (se_var 9) sa_nil))))) sa_nil)))
  (sb_one (ss_set 7 sc_d77.nd rfl (by first | exact Or.inl rfl | exact Or.inr rfl) (se_bin (om_add Z.k) (se_var 7) (se_lst (sf_lst (sa_cons (se_bin (om_add Z.k) se_str (se_callB (cm_reprD Z.k (by exact gd) (by exact hr.u64)) (by rfl) Z.b_repr (by rfl) (sa_cons (se_var 2) sa_nil))) (sa_cons (se_var 10) sa_nil))))))))))
  (sb_cons (ss_for (passes_of rfl) rfl (si_pick (si_tup Z.k (se_tup (sa_cons (se_glo 48 (by rfl) Z.n_read_sentence (by rw [Z.g_read_sentence]; rfl)) (sa_cons (se_glo 50 (by rfl) Z.n_read_recipe (by rw [Z.g_read_recipe]; rfl)) sa_nil)))) (si_lst (se_tup (sa_cons (se_glo 48 (by rfl) Z.n_read_sentence (by rw [Z.g_read_sentence]; rfl)) (sa_cons (se_glo 50 (by rfl) Z.n_read_recipe (by rw [Z.g_read_recipe]; rfl)) sa_nil))))) (sg_name 8 sc_d77.nd rfl (by first | exact Or.inl rfl | exact Or.inr rfl))
  (sb_cons (ss_expr (se_bm PySem.F.plainAttrs_list PySem.F.slot_list_append PySem.F.type_list_append qt_append ty_list (se_var 6) (sa_cons (met_call Z (by exact gd) hr TB rfl (by rw [Z.tb]; first | exact List.mem_cons_self | exact List.mem_cons_of_mem _ List.mem_cons_self | exact List.mem_cons_of_mem _ (List.mem_cons_of_mem _ List.mem_cons_self)) huT (by rfl) (LamX.lamS_by (by decide +kernel)) (by rfl) (fun _ _ _ _ _ => rfl) (fun A2 o2 s2 H2 E2 f2 c2 hr => (se_callV (tb_cons Z.g_read_recipe ((ok_d71 Z).mono (by decide)) Z.f_d71.kp Z.d_d71 (tb_cons Z.g_read_sentence ((ok_d69 Z).mono (by decide)) Z.f_d69.kp Z.d_d69 (tb_cons Z.g_recipe_text ((ok_d70 Z).mono (by decide)) Z.f_d70.kp Z.d_d70 (tb_cons Z.g_sentence_text ((ok_d68 Z).mono (by decide)) Z.f_d68.kp Z.d_d68 tb_nil)))) hr rfl (by first | exact Or.inl rfl | exact Or.inr (Or.inl rfl) | exact Or.inr (Or.inr rfl)) (takes_of rfl rfl rfl rfl) (sa_cons (se_var 2) (sa_cons (se_var 3) sa_nil))))) sa_nil)))
  (sb_cons (ss_expr (se_bm PySem.F.plainAttrs_list PySem.F.slot_list_append PySem.F.type_list_append qt_append ty_list (se_var 6) (sa_cons (met_call Z (by exact gd) hr TB rfl (by rw [Z.tb]; first | exact List.mem_cons_self | exact List.mem_cons_of_mem _ List.mem_cons_self | exact List.mem_cons_of_mem _ (List.mem_cons_of_mem _ List.mem_cons_self)) huT (by rfl) (LamX.lamS_by (by decide +kernel)) (by rfl) (fun _ _ _ _ _ => rfl) (fun A2 o2 s2 H2 E2 f2 c2 hr => (se_callV (tb_cons Z.g_read_recipe ((ok_d71 Z).mono (by decide)) Z.f_d71.kp Z.d_d71 (tb_cons Z.g_read_sentence ((ok_d69 Z).mono (by decide)) Z.f_d69.kp Z.d_d69 (tb_cons Z.g_recipe_text ((ok_d70 Z).mono (by decide)) Z.f_d70.kp Z.d_d70 (tb_cons Z.g_sentence_text ((ok_d68 Z).mono (by decide)) Z.f_d68.kp Z.d_d68 tb_nil)))) hr rfl (by first | exact Or.inl rfl | exact Or.inr (Or.inl rfl) | exact Or.inr (Or.inr rfl)) (takes_of rfl rfl rfl rfl) (sa_cons se_int (sa_cons (se_var 3) sa_nil))))) sa_nil)))
  (sb_one (ss_set 7 sc_d77.nd rfl (by first | exact Or.inl rfl | exact Or.inr rfl) (se_bin (om_add Z.k) (se_var 7) (se_lst (sf_lst (sa_cons (se_bin (om_add Z.k) se_str (se_callB (cm_reprD Z.k (by exact gd) (by exact hr.u64)) (by rfl) Z.b_repr (by rfl) (sa_cons (se_var 2) sa_nil))) (sa_cons se_str sa_nil))))))))))
  (sb_one (ss_ret (se_cmp ((om_eqD Z.k hr.u64).or (om_eqI (by rw [Z.cN]; decide) Z.eqm5 ((ok_c19m5 Z).mono (by decide)) hr Z.d_c19m5)) (se_var 6) (se_var 7) (nomark _))))))))))))))))))))
theorem okG_d78 (Z : Fx P w K mg base T ad fd cv bm) (TB_law_right : LamX.TabB base mg (ad 51) (ad 52)) (TB_law_webs_right : LamX.TabB base mg (ad 53) (ad 54)) (TBlaw : LamX.TabB base mg (ad 55) (ad 56)) : FnG P w K mg base (L2.CX P w) 10 (ad 46) (fd 46) [] (spM T 0 (mFn 3 m_d78)) :=
  have TB := TB_law_webs_right
  have huT : ∀ p ∈ T.tb, p.1 = ad 54 → p.2 = (("_law_webs_right" : Str) ++ ".<locals>.") ++ "<lambda>" := by
    rw [Z.tb]
    intro p hp e
    simp only [List.mem_cons, List.not_mem_nil, or_false] at hp
    rcases hp with rfl | rfl | rfl
    · exact absurd e Z.tne0_1
    · rfl
    · exact absurd e.symm Z.tne1_2
  fg_mkC Z.f_d78 sc_d78 Z.co__law_webs_right fun A outer s H E gd hr => (sb_cons (ss_set 0 sc_d78.nd rfl (by first | exact Or.inl rfl | exact Or.inr rfl) (se_lst (sf_lst (sa_cons (se_tup (sa_cons se_str (sa_cons se_int sa_nil))) (sa_cons (se_tup (sa_cons se_str (sa_cons se_int sa_nil))) (sa_cons (se_tup (sa_cons se_str (sa_cons se_int sa_nil))) (sa_cons (se_tup (sa_cons se_str (sa_cons se_int sa_nil))) (sa_cons (se_tup (sa_cons se_str (sa_cons se_int sa_nil))) (sa_cons (se_tup (sa_cons se_str (sa_cons se_int sa_nil))) (sa_cons (se_tup (sa_cons se_str (sa_cons se_int sa_nil))) sa_nil))))))))))
  (sb_cons (ss_set 0 sc_d78.nd rfl (by first | exact Or.inl rfl | exact Or.inr rfl) (se_bin (om_add Z.k) (se_var 0) (se_lst (sf_lst (sa_cons (se_tup (sa_cons se_str (sa_cons se_int sa_nil))) (sa_cons (se_tup (sa_cons se_str (sa_cons se_int sa_nil))) (sa_cons (se_tup (sa_cons se_str (sa_cons se_int sa_nil))) sa_nil)))))))
  (sb_cons (ss_set 0 sc_d78.nd rfl (by first | exact Or.inl rfl | exact Or.inr rfl) (se_bin (om_add Z.k) (se_var 0) (se_lst (sf_lst (sa_cons (se_tup (sa_cons se_str (sa_cons se_int sa_nil))) (sa_cons (se_tup (sa_cons se_str (sa_cons se_int sa_nil))) sa_nil))))))
  (sb_cons (ss_set 0 sc_d78.nd rfl (by first | exact Or.inl rfl | exact Or.inr rfl) (se_bin (om_add Z.k) (se_var 0) (se_lst (sf_lst (sa_cons (se_tup (sa_cons se_str (sa_cons se_int sa_nil))) (sa_cons (se_tup (sa_cons se_str (sa_cons se_int sa_nil))) sa_nil))))))
  (sb_cons (ss_set 0 sc_d78.nd rfl (by first | exact Or.inl rfl | exact Or.inr rfl) (se_bin (om_add Z.k) (se_var 0) (se_lst (sf_lst (sa_cons (se_tup (sa_cons se_str (sa_cons se_int sa_nil))) (sa_cons (se_tup (sa_cons se_str (sa_cons se_int sa_nil))) sa_nil))))))
  (sb_cons (ss_set 0 sc_d78.nd rfl (by first | exact Or.inl rfl | exact Or.inr rfl) (se_bin (om_add Z.k) (se_var 0) (se_lst (sf_lst (sa_cons (se_tup (sa_cons se_str (sa_cons se_int sa_nil))) (sa_cons (se_tup (sa_cons se_str (sa_cons se_int sa_nil))) (sa_cons (se_tup (sa_cons se_str (sa_cons se_int sa_nil))) sa_nil)))))))
  (sb_cons (ss_set 0 sc_d78.nd rfl (by first | exact Or.inl rfl | exact Or.inr rfl) (se_bin (om_add Z.k) (se_var 0) (se_lst (sf_lst (sa_cons (se_tup (sa_cons se_str (sa_cons se_int sa_nil))) (sa_cons (se_tup (sa_cons se_str (sa_cons se_int sa_nil))) sa_nil))))))
  (sb_cons (ss_set 0 sc_d78.nd rfl (by first | exact Or.inl rfl | exact Or.inr rfl) (se_bin (om_add Z.k) (se_var 0) (se_lst (sf_lst (sa_cons (se_tup (sa_cons (se_bin (om_add Z.k) (se_bin (om_add Z.k) se_str (se_join se_str (se_lst (sf_rep (sf_lst (sa_cons se_str sa_nil)) se_int)))) se_str) (sa_cons se_int sa_nil))) (sa_cons (se_tup (sa_cons se_str (sa_cons se_int sa_nil))) sa_nil))))))
  (sb_cons (ss_set 0 sc_d78.nd rfl (by first | exact Or.inl rfl | exact Or.inr rfl) (se_bin (om_add Z.k) (se_var 0) (se_lst (sf_lst (sa_cons (se_tup (sa_cons se_str (sa_cons se_int sa_nil))) (sa_cons (se_tup (sa_cons se_str (sa_cons se_int sa_nil))) sa_nil))))))
  (sb_one (ss_ret (se_cmp (om_eqD Z.k hr.u64) (se_lst (sf_lc (own := [("text", 1), ("at", 2)]) rfl sc_d78.nd (si_pick (si_pick (si_tup Z.k (se_var 0)) (si_lst (se_var 0))) (si_str (se_var 0))) (show blkC ["some", "text", "at"] (defScope s_d78) _ _ = true from by decide +kernel) (fun s H C cl fp => (sg_tup Z.k rfl (sgs_cons (sg_name 1 sc_d78.nd rfl (by first | exact Or.inl rfl | exact Or.inr rfl)) (sgs_cons (sg_name 2 sc_d78.nd rfl (by first | exact Or.inl rfl | exact Or.inr rfl)) sgs_nil)))) (fun s H C cl fp => (sts_one (st_cmp (om_neD Z.k hr.u64) (met_callB Z (by exact gd) hr TB rfl (by rw [Z.tb]; first | exact List.mem_cons_self | exact List.mem_cons_of_mem _ List.mem_cons_self | exact List.mem_cons_of_mem _ (List.mem_cons_of_mem _ List.mem_cons_self)) huT (by rfl) (LamX.lamS_by (by decide +kernel)) (by rfl) (fun _ _ _ _ _ => rfl) (fun A2 o2 s2 H2 E2 f2 c2 hr => (se_callP ((ok_d67 Z).mono (by decide)) hr (by rfl) Z.n_read_web Z.f_d67.kp Z.d_d67 (takes_of rfl rfl rfl rfl) (sa_cons (se_var 1) sa_nil)))) (se_bin (om_add Z.k) se_str (se_callB (cm_reprD Z.k (by exact gd) (by exact hr.u64)) (by rfl) Z.b_repr (by rfl) (sa_cons (se_var 2) sa_nil))) (nomark _)))) (fun s H C cl fp => (se_var 1)) (by decide))) (se_lst (sf_lst sa_nil)) (nomark _)))))))))))))
theorem okG_d79 (Z : Fx P w K mg base T ad fd cv bm) (TB_law_right : LamX.TabB base mg (ad 51) (ad 52)) (TB_law_webs_right : LamX.TabB base mg (ad 53) (ad 54)) (TBlaw : LamX.TabB base mg (ad 55) (ad 56)) : FnG P w K mg base (L2.CX P w) 13 (ad 47) (fd 47) ["script"] (spM T 1 (mFn 7 m_d79)) :=
  have TB := TBlaw
  have huT : ∀ p ∈ T.tb, p.1 = ad 56 → p.2 = (("law" : Str) ++ ".<locals>.") ++ "<lambda>" := by
    rw [Z.tb]
    intro p hp e
    simp only [List.mem_cons, List.not_mem_nil, or_false] at hp
    rcases hp with rfl | rfl | rfl
    · exact absurd e Z.tne0_2
    · exact absurd e Z.tne1_2
    · rfl
  fg_mkC Z.f_d79 sc_d79 Z.co_law fun A outer s H E gd hr => (sb_cons (ss_for (passes_of rfl) rfl (si_range1 (by rfl) Z.b_range (sa_cons (se_callB (cm_max2 rfl) (by rfl) Z.b_max (by rfl) (sa_cons se_int (sa_cons (se_callB (cm_min2 rfl) (by rfl) Z.b_min (by rfl) (sa_cons se_int (sa_cons (se_callB ((cm_len Z.k).or (cm_lenI (by rw [Z.cN]; decide) Z.len5 ((ok_c19m3 Z).mono (by decide)) hr Z.d_c19m3)) (by rfl) Z.b_len (by rfl) (sa_cons (se_var 0) sa_nil)) sa_nil))) sa_nil))) sa_nil)) (sg_name 1 sc_d79.nd rfl (by first | exact Or.inl rfl | exact Or.inr rfl))
  (sb_cons (ss_set 2 sc_d79.nd rfl (by first | exact Or.inl rfl | exact Or.inr rfl) (se_tr0 (se_call ((ok_d74 Z).mono (by decide)) hr (by rfl) Z.n__law_fa_up Z.f_d74.kp Z.d_d74 (takes_of rfl rfl rfl rfl) (sa_cons (se_call ((ok_d73 Z).mono (by decide)) hr (by rfl) Z.n__law_fa_hat Z.f_d73.kp Z.d_d73 (takes_of rfl rfl rfl rfl) (sa_cons (se_var 0) (sa_cons (se_var 1) sa_nil))) (sa_cons se_int sa_nil)))))
  (sb_one (ss_for (passes_of rfl) rfl (si_range1 (by rfl) Z.b_range (sa_cons se_int sa_nil)) (sg_name 3 sc_d79.nd rfl (by first | exact Or.inl rfl | exact Or.inr rfl))
  (sb_one (ss_if (st_not (st_val (se_callGP ((okG_d77 Z TB_law_right TB_law_webs_right TBlaw).mono (by decide)) (by exact gd) hr (by rfl) Z.n__law_right Z.f_d77.kp Z.d_d77 (takes_of rfl rfl rfl rfl) (sa_cons (se_bin (om_add Z.k) (se_var 2) (se_var 3)) sa_nil))))
  (sb_one (ss_ret se_bl))
  sb_nil))))))
  (sb_cons (ss_set 4 sc_d79.nd rfl (by first | exact Or.inl rfl | exact Or.inr rfl) (se_new (sf_lst (sa_cons (se_tup (sa_cons se_str (sa_cons se_int sa_nil))) (sa_cons (se_tup (sa_cons se_str (sa_cons se_int sa_nil))) (sa_cons (se_tup (sa_cons se_str (sa_cons se_int sa_nil))) (sa_cons (se_tup (sa_cons se_str (sa_cons se_int sa_nil))) (sa_cons (se_tup (sa_cons se_str (sa_cons se_int sa_nil))) sa_nil))))))))
  (sb_cons (ss_expr (se_bm PySem.F.plainAttrs_list PySem.F.slot_list_append PySem.F.type_list_append qt_append ty_list (se_var 4) (sa_cons (se_tup (sa_cons se_str (sa_cons se_int sa_nil))) sa_nil)))
  (sb_cons (ss_set 4 sc_d79.nd rfl (by first | exact Or.inl rfl | exact Or.inr rfl) (se_new (sf_bin of_catL (se_var 4) (se_lst (sf_lst (sa_cons (se_tup (sa_cons se_str (sa_cons se_int sa_nil))) (sa_cons (se_tup (sa_cons se_str (sa_cons se_int sa_nil))) (sa_cons (se_tup (sa_cons se_str (sa_cons se_int sa_nil))) (sa_cons (se_tup (sa_cons se_str (sa_cons se_int sa_nil))) (sa_cons (se_tup (sa_cons se_str (sa_cons se_int sa_nil))) sa_nil))))))))))
  (sb_cons (ss_set 4 sc_d79.nd rfl (by first | exact Or.inl rfl | exact Or.inr rfl) (se_new (sf_bin of_catL (se_var 4) (se_lst (sf_lst (sa_cons (se_tup (sa_cons (se_bin (om_add Z.k) (se_bin om_repS se_str se_int) se_str) (sa_cons se_int sa_nil))) (sa_cons (se_tup (sa_cons se_str (sa_cons se_int sa_nil))) (sa_cons (se_tup (sa_cons se_str (sa_cons se_int sa_nil))) sa_nil))))))))
  (sb_cons (ss_if (st_cmp (om_neD Z.k hr.u64) (se_lst (sf_lc (own := [("text", 5), ("at", 6)]) rfl sc_d79.nd (si_pick (si_tup Z.k (se_var 4)) (si_lst (se_var 4))) (show blkC ["script", "spot", "shift", "turn", "some", "text", "at"] (defScope s_d79) _ _ = true from by decide +kernel) (fun s H C cl fp => (sg_tup Z.k rfl (sgs_cons (sg_name 5 sc_d79.nd rfl (by first | exact Or.inl rfl | exact Or.inr rfl)) (sgs_cons (sg_name 6 sc_d79.nd rfl (by first | exact Or.inl rfl | exact Or.inr rfl)) sgs_nil)))) (fun s H C cl fp => (sts_one (st_cmp (om_neD Z.k hr.u64) (met_callB Z (by exact gd) hr TB rfl (by rw [Z.tb]; first | exact List.mem_cons_self | exact List.mem_cons_of_mem _ List.mem_cons_self | exact List.mem_cons_of_mem _ (List.mem_cons_of_mem _ List.mem_cons_self)) huT (by rfl) (LamX.lamS_by (by decide +kernel)) (by rfl) (fun _ _ _ _ _ => rfl) (fun A2 o2 s2 H2 E2 f2 c2 hr => (se_callP ((ok_d69 Z).mono (by decide)) hr (by rfl) Z.n_read_sentence Z.f_d69.kp Z.d_d69 (takes_of rfl rfl rfl rfl) (sa_cons se_int (sa_cons (se_var 5) sa_nil))))) (se_bin (om_add Z.k) se_str (se_callB (cm_reprD Z.k (by exact gd) (by exact hr.u64)) (by rfl) Z.b_repr (by rfl) (sa_cons (se_var 6) sa_nil))) (nomark _)))) (fun s H C cl fp => (se_var 5)) (by decide))) (se_lst (sf_lst sa_nil)) (nomark _))
  (sb_one (ss_ret se_bl))
  sb_nil)
  (sb_cons (ss_set 4 sc_d79.nd rfl (by first | exact Or.inl rfl | exact Or.inr rfl) (se_new (sf_lst (sa_cons (se_tup (sa_cons se_str (sa_cons se_int sa_nil))) (sa_cons (se_tup (sa_cons se_str (sa_cons se_int sa_nil))) (sa_cons (se_tup (sa_cons se_str (sa_cons se_int sa_nil))) (sa_cons (se_tup (sa_cons se_str (sa_cons se_int sa_nil))) (sa_cons (se_tup (sa_cons se_str (sa_cons se_int sa_nil))) sa_nil))))))))
  (sb_cons (ss_expr (se_bm PySem.F.plainAttrs_list PySem.F.slot_list_append PySem.F.type_list_append qt_append ty_list (se_var 4) (sa_cons (se_tup (sa_cons se_str (sa_cons se_int sa_nil))) sa_nil)))
  (sb_cons (ss_set 4 sc_d79.nd rfl (by first | exact Or.inl rfl | exact Or.inr rfl) (se_new (sf_bin of_catL (se_var 4) (se_lst (sf_lst (sa_cons (se_tup (sa_cons se_str (sa_cons se_int sa_nil))) (sa_cons (se_tup (sa_cons se_str (sa_cons se_int sa_nil))) (sa_cons (se_tup (sa_cons se_str (sa_cons se_int sa_nil))) (sa_cons (se_tup (sa_cons se_str (sa_cons se_int sa_nil))) (sa_cons (se_tup (sa_cons (se_bin om_repS se_str se_int) (sa_cons se_int sa_nil))) sa_nil))))))))))
  (sb_cons (ss_if (st_cmp (om_neD Z.k hr.u64) (se_lst (sf_lc (own := [("text", 5), ("at", 6)]) rfl sc_d79.nd (si_pick (si_tup Z.k (se_var 4)) (si_lst (se_var 4))) (show blkC ["script", "spot", "shift", "turn", "some", "text", "at"] (defScope s_d79) _ _ = true from by decide +kernel) (fun s H C cl fp => (sg_tup Z.k rfl (sgs_cons (sg_name 5 sc_d79.nd rfl (by first | exact Or.inl rfl | exact Or.inr rfl)) (sgs_cons (sg_name 6 sc_d79.nd rfl (by first | exact Or.inl rfl | exact Or.inr rfl)) sgs_nil)))) (fun s H C cl fp => (sts_one (st_cmp (om_neD Z.k hr.u64) (met_callB Z (by exact gd) hr TB rfl (by rw [Z.tb]; first | exact List.mem_cons_self | exact List.mem_cons_of_mem _ List.mem_cons_self | exact List.mem_cons_of_mem _ (List.mem_cons_of_mem _ List.mem_cons_self)) huT (by rfl) (LamX.lamS_by (by decide +kernel)) (by rfl) (fun _ _ _ _ _ => rfl) (fun A2 o2 s2 H2 E2 f2 c2 hr => (se_callP ((ok_d71 Z).mono (by decide)) hr (by rfl) Z.n_read_recipe Z.f_d71.kp Z.d_d71 (takes_of rfl rfl rfl rfl) (sa_cons se_int (sa_cons (se_var 5) sa_nil))))) (se_bin (om_add Z.k) se_str (se_callB (cm_reprD Z.k (by exact gd) (by exact hr.u64)) (by rfl) Z.b_repr (by rfl) (sa_cons (se_var 6) sa_nil))) (nomark _)))) (fun s H C cl fp => (se_var 5)) (by decide))) (se_lst (sf_lst sa_nil)) (nomark _))
  (sb_one (ss_ret se_bl))
  sb_nil)
  (sb_one (ss_ret (se_and (se_callGP0 ((okG_d78 Z TB_law_right TB_law_webs_right TBlaw).mono (by decide)) (by exact gd) hr (by rfl) Z.n__law_webs_right Z.f_d78.kp Z.d_d78 (takes_of rfl rfl rfl rfl)) (se_one (se_cmp (om_eqD Z.k hr.u64) (met_call Z (by exact gd) hr TB rfl (by rw [Z.tb]; first | exact List.mem_cons_self | exact List.mem_cons_of_mem _ List.mem_cons_self | exact List.mem_cons_of_mem _ (List.mem_cons_of_mem _ List.mem_cons_self)) huT (by rfl) (LamX.lamS_by (by decide +kernel)) (by rfl) (fun _ _ _ _ _ => rfl) (fun A2 o2 s2 H2 E2 f2 c2 hr => (se_callP ((ok_d71 Z).mono (by decide)) hr (by rfl) Z.n_read_recipe Z.f_d71.kp Z.d_d71 (takes_of rfl rfl rfl rfl) (sa_cons se_int (sa_cons (se_bin om_repS se_str se_int) sa_nil))))) se_str (nomark _))))))))))))))))
end
end G

namespace G
open PySem PySem.Spec PyProof.Rows L2 M
noncomputable abbrev s_i3 : Stmt := inClass (topS 6) 0
theorem sc_i3 : FnScope ["self", "given"] ["self", "given"] (defScope s_i3) := ⟨rfl, rfl, rfl, by decide +kernel, rfl, by decide +kernel, by decide +kernel⟩
noncomputable abbrev s_i4 : Stmt := inClass (topS 7) 0
theorem sc_i4 : FnScope ["self", "at"] ["self", "at"] (defScope s_i4) := ⟨rfl, rfl, rfl, by decide +kernel, rfl, by decide +kernel, by decide +kernel⟩
noncomputable def gU (cs : List Nat) (n : Nat) : Value := match n with
  | 0 => .type "int"
  | 1 => .type "bool"
  | 2 => .type "tuple"
  | 3 => .type "list"
  | 4 => .type "dict"
  | 5 => .type "str"
  | 12 => .ref (cs.getD 5 0)
  | _ => .none
section
theorem in_i3 {P : Program} {w : World} {K : PySem.W.Frag} {mg : Str → Option Value} {base : Heap} {f B C : Addr} {fd : FuncData} (F : Fun K "__init__" "InvalidNumber.__init__" s_i3 f fd) (hm : mg "FiveError" = some (.ref B))
    (sg : PySem.W.specialIn K (.ref B) "__getattribute__" = some (some (.builtin "type.__getattribute__"))) (ty : PySem.W.typeIn K (.ref B) = some (.type "type")) (rd : PySem.W.readsIn K B (.type "type") = true)
    (fc : PySem.W.findCls K (.ref B) (.type "type") "__init__" = some (.val (.builtin "ValueError.__init__"))) (OC : OexC K C) (no : PySem.W.findIn K (.ref C) "given" = some none) :
    FnOk P w K mg base (L2.CX P w) 2 f fd ["self", "given"] (spI C "given") := by
  refine F.okX sc_i3 (fun vs H Q E h => ?_) (fun cdv A outer s H vs Q E hr h => ?_)
  · obtain ⟨a, v, rfl, _⟩ := h
    rfl
  · obtain ⟨a, v, rfl, ea, h⟩ := h
    refine ⟨_, pss_cons (ps_expr (pe_binit (by rfl) hm sg ty rd fc (pa_cons (pv 0) (pa_cons pe_str pa_nil)))) (pss_one (ps_ost (pv 0) (pv 1))), ?_⟩
    exact ⟨.ref a, rfl, a, C, [_], rfl, by simp, OC, ea, v, rfl, .ref a, rfl, a, C, rfl, OC, no, .inl ⟨ea, h⟩⟩
theorem in_i4 {P : Program} {w : World} {K : PySem.W.Frag} {mg : Str → Option Value} {base : Heap} {f B C : Addr} {fd : FuncData} (F : Fun K "__init__" "ParseError.__init__" s_i4 f fd) (hm : mg "FiveError" = some (.ref B))
    (sg : PySem.W.specialIn K (.ref B) "__getattribute__" = some (some (.builtin "type.__getattribute__"))) (ty : PySem.W.typeIn K (.ref B) = some (.type "type")) (rd : PySem.W.readsIn K B (.type "type") = true)
    (fc : PySem.W.findCls K (.ref B) (.type "type") "__init__" = some (.val (.builtin "ValueError.__init__"))) (OC : OexC K C) (no : PySem.W.findIn K (.ref C) "at" = some none) :
    FnOk P w K mg base (L2.CX P w) 2 f fd ["self", "at"] (spI C "at") := by
  refine F.okX sc_i4 (fun vs H Q E h => ?_) (fun cdv A outer s H vs Q E hr h => ?_)
  · obtain ⟨a, v, rfl, _⟩ := h
    rfl
  · obtain ⟨a, v, rfl, ea, h⟩ := h
    refine ⟨_, pss_cons (ps_expr (pe_binit (by rfl) hm sg ty rd fc (pa_cons (pv 0) (pa_cons pe_str pa_nil)))) (pss_one (ps_ost (pv 0) (pv 1))), ?_⟩
    exact ⟨.ref a, rfl, a, C, [_], rfl, by simp, OC, ea, v, rfl, .ref a, rfl, a, C, rfl, OC, no, .inl ⟨ea, h⟩⟩
end
section
theorem end_mk {l : PySem.W.OpenLaw} {w : World} {K : PySem.W.Frag} {h : Heap} {mg : Str → Option Value} {fa : Addr}
    {c0 : Addr}
    {c1 : Addr}
    {c2 : Addr}
    {c3 : Addr}
    {c4 : Addr}
    {c5 : Addr}
    {c6 : Addr}
    {a0 : Addr}
    {a1 : Addr}
    {a2 : Addr}
    {a3 : Addr}
    {a4 : Addr}
    {a5 : Addr}
    {a6 : Addr}
    {a7 : Addr}
    {a8 : Addr}
    {a9 : Addr}
    {a10 : Addr}
    {a11 : Addr}
    {a12 : Addr}
    {a13 : Addr}
    {a14 : Addr}
    {a15 : Addr}
    {a16 : Addr}
    {a17 : Addr}
    {a18 : Addr}
    {a19 : Addr}
    {a20 : Addr}
    {a21 : Addr}
    {a22 : Addr}
    {a23 : Addr}
    {a24 : Addr}
    {a25 : Addr}
    {a26 : Addr}
    {a27 : Addr}
    {a28 : Addr}
    {a29 : Addr}
    {a30 : Addr}
    {a31 : Addr}
    {a32 : Addr}
    {a33 : Addr}
    {a34 : Addr}
    {a35 : Addr}
    {a36 : Addr}
    {a37 : Addr}
    {a38 : Addr}
    {a39 : Addr}
    {a40 : Addr}
    {a41 : Addr}
    {a42 : Addr}
    {a43 : Addr}
    {a44 : Addr}
    {a45 : Addr}
    {a46 : Addr}
    {a47 : Addr}
    {a48 : Addr}
    {a49 : Addr}
    {a50 : Addr}
    {a51 : Addr}
    {a52 : Addr}
    {a53 : Addr}
    {a54 : Addr}
    {a55 : Addr}
    {a56 : Addr}
    {a57 : Addr}
    {a58 : Addr}
    {a59 : Addr}
    {a60 : Addr}
    {oc0 kV0 dc0 pm0 ct0 cd0 : Value} {od0 an0 : Option Addr} {sl0 : Array (Option Value)}
    {oc1 kV1 dc1 pm1 ct1 cd1 : Value} {od1 an1 : Option Addr} {sl1 : Array (Option Value)}
    {oc2 kV2 dc2 pm2 ct2 cd2 : Value} {od2 an2 : Option Addr} {sl2 : Array (Option Value)}
    {oc3 kV3 dc3 pm3 ct3 cd3 : Value} {od3 an3 : Option Addr} {sl3 : Array (Option Value)}
    {oc4 kV4 dc4 pm4 ct4 cd4 : Value} {od4 an4 : Option Addr} {sl4 : Array (Option Value)}
    {oc5 kV5 dc5 pm5 ct5 cd5 : Value} {od5 an5 : Option Addr} {sl5 : Array (Option Value)}
    {oc6 kV6 dc6 pm6 ct6 cd6 : Value} {od6 an6 : Option Addr} {sl6 : Array (Option Value)}
    {oc7 kV7 dc7 pm7 ct7 cd7 : Value} {od7 an7 : Option Addr} {sl7 : Array (Option Value)}
    {oc8 kV8 dc8 pm8 ct8 cd8 : Value} {od8 an8 : Option Addr} {sl8 : Array (Option Value)}
    {oc9 kV9 dc9 pm9 ct9 cd9 : Value} {od9 an9 : Option Addr} {sl9 : Array (Option Value)}
    {oc10 kV10 dc10 pm10 ct10 cd10 : Value} {od10 an10 : Option Addr} {sl10 : Array (Option Value)}
    {oc11 kV11 dc11 pm11 ct11 cd11 : Value} {od11 an11 : Option Addr} {sl11 : Array (Option Value)}
    {oc12 kV12 dc12 pm12 ct12 cd12 : Value} {od12 an12 : Option Addr} {sl12 : Array (Option Value)}
    {oc13 kV13 dc13 pm13 ct13 cd13 : Value} {od13 an13 : Option Addr} {sl13 : Array (Option Value)}
    {oc14 kV14 dc14 pm14 ct14 cd14 : Value} {od14 an14 : Option Addr} {sl14 : Array (Option Value)}
    {oc15 kV15 dc15 pm15 ct15 cd15 : Value} {od15 an15 : Option Addr} {sl15 : Array (Option Value)}
    {oc16 kV16 dc16 pm16 ct16 cd16 : Value} {od16 an16 : Option Addr} {sl16 : Array (Option Value)}
    {oc17 kV17 dc17 pm17 ct17 cd17 : Value} {od17 an17 : Option Addr} {sl17 : Array (Option Value)}
    {oc18 kV18 dc18 pm18 ct18 cd18 : Value} {od18 an18 : Option Addr} {sl18 : Array (Option Value)}
    {oc19 kV19 dc19 pm19 ct19 cd19 : Value} {od19 an19 : Option Addr} {sl19 : Array (Option Value)}
    {oc20 kV20 dc20 pm20 ct20 cd20 : Value} {od20 an20 : Option Addr} {sl20 : Array (Option Value)}
    {oc21 kV21 dc21 pm21 ct21 cd21 : Value} {od21 an21 : Option Addr} {sl21 : Array (Option Value)}
    {oc22 kV22 dc22 pm22 ct22 cd22 : Value} {od22 an22 : Option Addr} {sl22 : Array (Option Value)}
    {oc23 kV23 dc23 pm23 ct23 cd23 : Value} {od23 an23 : Option Addr} {sl23 : Array (Option Value)}
    {oc24 kV24 dc24 pm24 ct24 cd24 : Value} {od24 an24 : Option Addr} {sl24 : Array (Option Value)}
    {oc25 kV25 dc25 pm25 ct25 cd25 : Value} {od25 an25 : Option Addr} {sl25 : Array (Option Value)}
    {oc26 kV26 dc26 pm26 ct26 cd26 : Value} {od26 an26 : Option Addr} {sl26 : Array (Option Value)}
    {oc27 kV27 dc27 pm27 ct27 cd27 : Value} {od27 an27 : Option Addr} {sl27 : Array (Option Value)}
    {oc28 kV28 dc28 pm28 ct28 cd28 : Value} {od28 an28 : Option Addr} {sl28 : Array (Option Value)}
    {oc29 kV29 dc29 pm29 ct29 cd29 : Value} {od29 an29 : Option Addr} {sl29 : Array (Option Value)}
    {oc30 kV30 dc30 pm30 ct30 cd30 : Value} {od30 an30 : Option Addr} {sl30 : Array (Option Value)}
    {oc31 kV31 dc31 pm31 ct31 cd31 : Value} {od31 an31 : Option Addr} {sl31 : Array (Option Value)}
    {oc32 kV32 dc32 pm32 ct32 cd32 : Value} {od32 an32 : Option Addr} {sl32 : Array (Option Value)}
    {oc33 kV33 dc33 pm33 ct33 cd33 : Value} {od33 an33 : Option Addr} {sl33 : Array (Option Value)}
    {oc34 kV34 dc34 pm34 ct34 cd34 : Value} {od34 an34 : Option Addr} {sl34 : Array (Option Value)}
    {oc35 kV35 dc35 pm35 ct35 cd35 : Value} {od35 an35 : Option Addr} {sl35 : Array (Option Value)}
    {oc36 kV36 dc36 pm36 ct36 cd36 : Value} {od36 an36 : Option Addr} {sl36 : Array (Option Value)}
    {oc37 kV37 dc37 pm37 ct37 cd37 : Value} {od37 an37 : Option Addr} {sl37 : Array (Option Value)}
    {oc38 kV38 dc38 pm38 ct38 cd38 : Value} {od38 an38 : Option Addr} {sl38 : Array (Option Value)}
    {oc39 kV39 dc39 pm39 ct39 cd39 : Value} {od39 an39 : Option Addr} {sl39 : Array (Option Value)}
    {oc40 kV40 dc40 pm40 ct40 cd40 : Value} {od40 an40 : Option Addr} {sl40 : Array (Option Value)}
    {oc41 kV41 dc41 pm41 ct41 cd41 : Value} {od41 an41 : Option Addr} {sl41 : Array (Option Value)}
    {oc42 kV42 dc42 pm42 ct42 cd42 : Value} {od42 an42 : Option Addr} {sl42 : Array (Option Value)}
    {oc43 kV43 dc43 pm43 ct43 cd43 : Value} {od43 an43 : Option Addr} {sl43 : Array (Option Value)}
    {oc44 kV44 dc44 pm44 ct44 cd44 : Value} {od44 an44 : Option Addr} {sl44 : Array (Option Value)}
    {oc45 kV45 dc45 pm45 ct45 : Value} {od45 an45 : Option Addr} {sl45 : Array (Option Value)}
    {oc46 kV46 dc46 pm46 ct46 : Value} {od46 an46 : Option Addr} {sl46 : Array (Option Value)}
    {oc47 kV47 dc47 pm47 ct47 : Value} {od47 an47 : Option Addr} {sl47 : Array (Option Value)}
    {oc48 kV48 dc48 pm48 ct48 cd48 : Value} {od48 an48 : Option Addr} {sl48 : Array (Option Value)}
    {oc49 kV49 dc49 pm49 ct49 cd49 : Value} {od49 an49 : Option Addr} {sl49 : Array (Option Value)}
    {oc50 kV50 dc50 pm50 ct50 cd50 : Value} {od50 an50 : Option Addr} {sl50 : Array (Option Value)}
    {oc57 kV57 dc57 pm57 ct57 cd57 : Value} {od57 an57 : Option Addr} {sl57 : Array (Option Value)}
    {oc58 kV58 dc58 pm58 ct58 cd58 : Value} {od58 an58 : Option Addr} {sl58 : Array (Option Value)}
    {u0 : Value}
    {u1 : Value}
    {u2 : Value}
    {u3 : Value}
    {u4 : Value}
    {u5 : Value}
    {u6 : Value}
    {u7 : Value}
    {u8 : Value}
    {u9 : Value}
    {u10 : Value}
    {u11 : Value}
    {u12 : Value}
    {u13 : Value}
    {u14 : Value}
    {nm3 : _} {q3 : _} {N3 : _} {bs3 : _} {bm3 : _} {sn3 : _} {sub3 : _} {ab3 : _} {col3 : _} {dd3 : _} {xa3 : _} {xb3 : _} {xd3 : _} {xe3 : _} {xf3 : _}
    {nm4 : _} {q4 : _} {N4 : _} {bs4 : _} {bm4 : _} {sn4 : _} {sub4 : _} {ab4 : _} {col4 : _} {dd4 : _} {xa4 : _} {xb4 : _} {xd4 : _} {xe4 : _} {xf4 : _}
    (KX : K.In h) (G : h.Ns mainGlobals mg) (hfa : mg "law" = some (.ref fa)) (ts : ∀ P ∈ [a52, a54, a56], h.get? P = some (PySem.W.tabObj #[]))
    (say : ∀ ns : List Int, ns.length ≤ 63 → (∀ z ∈ ns, Builtin.Int.intBits z ≤ 1048576) → (∃ m, mFn 7 m_d79 [.lst (ns.map PV.int)] [] = .ok (.bl true) m) ∧ ∃ m, mFn 7 m_d79 [.kst (ns.map PV.int)] [] = .ok (.bl true) m)
    (nc6 : PySem.W.nsIn K mainGlobals "FiveError" = some (some (.ref c6)))
    (nc0 : PySem.W.nsIn K mainGlobals "InvalidWeb" = some (some (.ref c0)))
    (nc1 : PySem.W.nsIn K mainGlobals "InvalidRecipe" = some (some (.ref c1)))
    (nc2 : PySem.W.nsIn K mainGlobals "InvalidSentence" = some (some (.ref c2)))
    (nc3 : PySem.W.nsIn K mainGlobals "InvalidNumber" = some (some (.ref c3)))
    (nc4 : PySem.W.nsIn K mainGlobals "ParseError" = some (some (.ref c4)))
    (nc5 : PySem.W.nsIn K mainGlobals "Web" = some (some (.ref c5)))
    (n0 : PySem.W.nsIn K mainGlobals "is_between" = some (some (.ref a0)))
    (l0 : K.lookup a0 = some ⟨oc0, od0, .func (PySem.W.fnOf "is_between" "is_between" (defArgs s_d9) (defBody s_d9) (defScope s_d9) .none kV0 dc0 pm0 an0 cd0 ct0), sl0⟩)
    (o0 : PySem.W.codeIn K cd0 "is_between" = true)
    (k0 : PySem.W.keepIn K (.ref a0) = true)
    (n1 : PySem.W.nsIn K mainGlobals "are_between" = some (some (.ref a1)))
    (l1 : K.lookup a1 = some ⟨oc1, od1, .func (PySem.W.fnOf "are_between" "are_between" (defArgs s_d10) (defBody s_d10) (defScope s_d10) .none kV1 dc1 pm1 an1 cd1 ct1), sl1⟩)
    (o1 : PySem.W.codeIn K cd1 "are_between" = true)
    (k1 : PySem.W.keepIn K (.ref a1) = true)
    (n2 : PySem.W.findIn K (.ref c5) "__len__" = some (some (.ref a2)))
    (l2 : K.lookup a2 = some ⟨oc2, od2, .func (PySem.W.fnOf "__len__" "Web.__len__" (defArgs s_c19m3) (defBody s_c19m3) (defScope s_c19m3) .none kV2 dc2 pm2 an2 cd2 ct2), sl2⟩)
    (o2 : PySem.W.codeIn K cd2 "Web.__len__" = true)
    (k2 : PySem.W.keepIn K (.ref a2) = true)
    (fn2 : PySem.W.isFn K (.ref a2) = true)
    (n3 : PySem.W.nsIn K mainGlobals "is_ascending" = some (some (.ref a3)))
    (l3 : K.lookup a3 = some ⟨oc3, od3, .func (PySem.W.fnOf "is_ascending" "is_ascending" (defArgs s_d11) (defBody s_d11) (defScope s_d11) .none kV3 dc3 pm3 an3 cd3 ct3), sl3⟩)
    (o3 : PySem.W.codeIn K cd3 "is_ascending" = true)
    (k3 : PySem.W.keepIn K (.ref a3) = true)
    (n4 : PySem.W.nsIn K mainGlobals "are_colours" = some (some (.ref a4)))
    (l4 : K.lookup a4 = some ⟨oc4, od4, .func (PySem.W.fnOf "are_colours" "are_colours" (defArgs s_d16) (defBody s_d16) (defScope s_d16) .none kV4 dc4 pm4 an4 cd4 ct4), sl4⟩)
    (o4 : PySem.W.codeIn K cd4 "are_colours" = true)
    (k4 : PySem.W.keepIn K (.ref a4) = true)
    (n5 : PySem.W.nsIn K mainGlobals "are_ties" = some (some (.ref a5)))
    (l5 : K.lookup a5 = some ⟨oc5, od5, .func (PySem.W.fnOf "are_ties" "are_ties" (defArgs s_d17) (defBody s_d17) (defScope s_d17) .none kV5 dc5 pm5 an5 cd5 ct5), sl5⟩)
    (o5 : PySem.W.codeIn K cd5 "are_ties" = true)
    (k5 : PySem.W.keepIn K (.ref a5) = true)
    (n6 : PySem.W.nsIn K mainGlobals "near_points" = some (some (.ref a6)))
    (l6 : K.lookup a6 = some ⟨oc6, od6, .func (PySem.W.fnOf "near_points" "near_points" (defArgs s_d18) (defBody s_d18) (defScope s_d18) .none kV6 dc6 pm6 an6 cd6 ct6), sl6⟩)
    (o6 : PySem.W.codeIn K cd6 "near_points" = true)
    (k6 : PySem.W.keepIn K (.ref a6) = true)
    (n7 : PySem.W.nsIn K mainGlobals "check_web" = some (some (.ref a7)))
    (l7 : K.lookup a7 = some ⟨oc7, od7, .func (PySem.W.fnOf "check_web" "check_web" (defArgs s_d20) (defBody s_d20) (defScope s_d20) .none kV7 dc7 pm7 an7 cd7 ct7), sl7⟩)
    (o7 : PySem.W.codeIn K cd7 "check_web" = true)
    (k7 : PySem.W.keepIn K (.ref a7) = true)
    (n8 : PySem.W.nsIn K mainGlobals "check_point" = some (some (.ref a8)))
    (l8 : K.lookup a8 = some ⟨oc8, od8, .func (PySem.W.fnOf "check_point" "check_point" (defArgs s_d21) (defBody s_d21) (defScope s_d21) .none kV8 dc8 pm8 an8 cd8 ct8), sl8⟩)
    (o8 : PySem.W.codeIn K cd8 "check_point" = true)
    (k8 : PySem.W.keepIn K (.ref a8) = true)
    (n9 : PySem.W.nsIn K mainGlobals "check_k" = some (some (.ref a9)))
    (l9 : K.lookup a9 = some ⟨oc9, od9, .func (PySem.W.fnOf "check_k" "check_k" (defArgs s_d24) (defBody s_d24) (defScope s_d24) .none kV9 dc9 pm9 an9 cd9 ct9), sl9⟩)
    (o9 : PySem.W.codeIn K cd9 "check_k" = true)
    (k9 : PySem.W.keepIn K (.ref a9) = true)
    (n10 : PySem.W.nsIn K mainGlobals "bits_of_two" = some (some (.ref a10)))
    (l10 : K.lookup a10 = some ⟨oc10, od10, .func (PySem.W.fnOf "bits_of_two" "bits_of_two" (defArgs s_d31) (defBody s_d31) (defScope s_d31) .none kV10 dc10 pm10 an10 cd10 ct10), sl10⟩)
    (o10 : PySem.W.codeIn K cd10 "bits_of_two" = true)
    (k10 : PySem.W.keepIn K (.ref a10) = true)
    (n11 : PySem.W.nsIn K mainGlobals "bits_of_coloured" = some (some (.ref a11)))
    (l11 : K.lookup a11 = some ⟨oc11, od11, .func (PySem.W.fnOf "bits_of_coloured" "bits_of_coloured" (defArgs s_d32) (defBody s_d32) (defScope s_d32) .none kV11 dc11 pm11 an11 cd11 ct11), sl11⟩)
    (o11 : PySem.W.codeIn K cd11 "bits_of_coloured" = true)
    (k11 : PySem.W.keepIn K (.ref a11) = true)
    (n12 : PySem.W.nsIn K mainGlobals "bits_of_many" = some (some (.ref a12)))
    (l12 : K.lookup a12 = some ⟨oc12, od12, .func (PySem.W.fnOf "bits_of_many" "bits_of_many" (defArgs s_d33) (defBody s_d33) (defScope s_d33) .none kV12 dc12 pm12 an12 cd12 ct12), sl12⟩)
    (o12 : PySem.W.codeIn K cd12 "bits_of_many" = true)
    (k12 : PySem.W.keepIn K (.ref a12) = true)
    (n13 : PySem.W.nsIn K mainGlobals "bits_of_least" = some (some (.ref a13)))
    (l13 : K.lookup a13 = some ⟨oc13, od13, .func (PySem.W.fnOf "bits_of_least" "bits_of_least" (defArgs s_d34) (defBody s_d34) (defScope s_d34) .none kV13 dc13 pm13 an13 cd13 ct13), sl13⟩)
    (o13 : PySem.W.codeIn K cd13 "bits_of_least" = true)
    (k13 : PySem.W.keepIn K (.ref a13) = true)
    (n14 : PySem.W.nsIn K mainGlobals "bits_of_line" = some (some (.ref a14)))
    (l14 : K.lookup a14 = some ⟨oc14, od14, .func (PySem.W.fnOf "bits_of_line" "bits_of_line" (defArgs s_d35) (defBody s_d35) (defScope s_d35) .none kV14 dc14 pm14 an14 cd14 ct14), sl14⟩)
    (o14 : PySem.W.codeIn K cd14 "bits_of_line" = true)
    (k14 : PySem.W.keepIn K (.ref a14) = true)
    (n15 : PySem.W.findIn K (.ref c5) "__eq__" = some (some (.ref a15)))
    (l15 : K.lookup a15 = some ⟨oc15, od15, .func (PySem.W.fnOf "__eq__" "Web.__eq__" (defArgs s_c19m5) (defBody s_c19m5) (defScope s_c19m5) .none kV15 dc15 pm15 an15 cd15 ct15), sl15⟩)
    (o15 : PySem.W.codeIn K cd15 "Web.__eq__" = true)
    (k15 : PySem.W.keepIn K (.ref a15) = true)
    (fn15 : PySem.W.isFn K (.ref a15) = true)
    (n16 : PySem.W.nsIn K mainGlobals "bits_of_lines" = some (some (.ref a16)))
    (l16 : K.lookup a16 = some ⟨oc16, od16, .func (PySem.W.fnOf "bits_of_lines" "bits_of_lines" (defArgs s_d36) (defBody s_d36) (defScope s_d36) .none kV16 dc16 pm16 an16 cd16 ct16), sl16⟩)
    (o16 : PySem.W.codeIn K cd16 "bits_of_lines" = true)
    (k16 : PySem.W.keepIn K (.ref a16) = true)
    (n17 : PySem.W.nsIn K mainGlobals "is_sentence_of" = some (some (.ref a17)))
    (l17 : K.lookup a17 = some ⟨oc17, od17, .func (PySem.W.fnOf "is_sentence_of" "is_sentence_of" (defArgs s_d37) (defBody s_d37) (defScope s_d37) .none kV17 dc17 pm17 an17 cd17 ct17), sl17⟩)
    (o17 : PySem.W.codeIn K cd17 "is_sentence_of" = true)
    (k17 : PySem.W.keepIn K (.ref a17) = true)
    (n18 : PySem.W.nsIn K mainGlobals "check_sentence" = some (some (.ref a18)))
    (l18 : K.lookup a18 = some ⟨oc18, od18, .func (PySem.W.fnOf "check_sentence" "check_sentence" (defArgs s_d38) (defBody s_d38) (defScope s_d38) .none kV18 dc18 pm18 an18 cd18 ct18), sl18⟩)
    (o18 : PySem.W.codeIn K cd18 "check_sentence" = true)
    (k18 : PySem.W.keepIn K (.ref a18) = true)
    (n19 : PySem.W.nsIn K mainGlobals "number_in" = some (some (.ref a19)))
    (l19 : K.lookup a19 = some ⟨oc19, od19, .func (PySem.W.fnOf "number_in" "number_in" (defArgs s_d43) (defBody s_d43) (defScope s_d43) .none kV19 dc19 pm19 an19 cd19 ct19), sl19⟩)
    (o19 : PySem.W.codeIn K cd19 "number_in" = true)
    (k19 : PySem.W.keepIn K (.ref a19) = true)
    (n20 : PySem.W.nsIn K mainGlobals "lot_in" = some (some (.ref a20)))
    (l20 : K.lookup a20 = some ⟨oc20, od20, .func (PySem.W.fnOf "lot_in" "lot_in" (defArgs s_d44) (defBody s_d44) (defScope s_d44) .none kV20 dc20 pm20 an20 cd20 ct20), sl20⟩)
    (o20 : PySem.W.codeIn K cd20 "lot_in" = true)
    (k20 : PySem.W.keepIn K (.ref a20) = true)
    (n21 : PySem.W.nsIn K mainGlobals "lot_text" = some (some (.ref a21)))
    (l21 : K.lookup a21 = some ⟨oc21, od21, .func (PySem.W.fnOf "lot_text" "lot_text" (defArgs s_d45) (defBody s_d45) (defScope s_d45) .none kV21 dc21 pm21 an21 cd21 ct21), sl21⟩)
    (o21 : PySem.W.codeIn K cd21 "lot_text" = true)
    (k21 : PySem.W.keepIn K (.ref a21) = true)
    (n22 : PySem.W.nsIn K mainGlobals "member_text" = some (some (.ref a22)))
    (l22 : K.lookup a22 = some ⟨oc22, od22, .func (PySem.W.fnOf "member_text" "member_text" (defArgs s_d46) (defBody s_d46) (defScope s_d46) .none kV22 dc22 pm22 an22 cd22 ct22), sl22⟩)
    (o22 : PySem.W.codeIn K cd22 "member_text" = true)
    (k22 : PySem.W.keepIn K (.ref a22) = true)
    (n23 : PySem.W.nsIn K mainGlobals "line_text" = some (some (.ref a23)))
    (l23 : K.lookup a23 = some ⟨oc23, od23, .func (PySem.W.fnOf "line_text" "line_text" (defArgs s_d47) (defBody s_d47) (defScope s_d47) .none kV23 dc23 pm23 an23 cd23 ct23), sl23⟩)
    (o23 : PySem.W.codeIn K cd23 "line_text" = true)
    (k23 : PySem.W.keepIn K (.ref a23) = true)
    (n24 : PySem.W.nsIn K mainGlobals "is_like_line" = some (some (.ref a24)))
    (l24 : K.lookup a24 = some ⟨oc24, od24, .func (PySem.W.fnOf "is_like_line" "is_like_line" (defArgs s_d52) (defBody s_d52) (defScope s_d52) .none kV24 dc24 pm24 an24 cd24 ct24), sl24⟩)
    (o24 : PySem.W.codeIn K cd24 "is_like_line" = true)
    (k24 : PySem.W.keepIn K (.ref a24) = true)
    (n25 : PySem.W.nsIn K mainGlobals "places_of_first" = some (some (.ref a25)))
    (l25 : K.lookup a25 = some ⟨oc25, od25, .func (PySem.W.fnOf "places_of_first" "places_of_first" (defArgs s_d53) (defBody s_d53) (defScope s_d53) .none kV25 dc25 pm25 an25 cd25 ct25), sl25⟩)
    (o25 : PySem.W.codeIn K cd25 "places_of_first" = true)
    (k25 : PySem.W.keepIn K (.ref a25) = true)
    (n26 : PySem.W.nsIn K mainGlobals "places_of_line" = some (some (.ref a26)))
    (l26 : K.lookup a26 = some ⟨oc26, od26, .func (PySem.W.fnOf "places_of_line" "places_of_line" (defArgs s_d54) (defBody s_d54) (defScope s_d54) .none kV26 dc26 pm26 an26 cd26 ct26), sl26⟩)
    (o26 : PySem.W.codeIn K cd26 "places_of_line" = true)
    (k26 : PySem.W.keepIn K (.ref a26) = true)
    (n27 : PySem.W.nsIn K mainGlobals "places_of" = some (some (.ref a27)))
    (l27 : K.lookup a27 = some ⟨oc27, od27, .func (PySem.W.fnOf "places_of" "places_of" (defArgs s_d55) (defBody s_d55) (defScope s_d55) .none kV27 dc27 pm27 an27 cd27 ct27), sl27⟩)
    (o27 : PySem.W.codeIn K cd27 "places_of" = true)
    (k27 : PySem.W.keepIn K (.ref a27) = true)
    (n28 : PySem.W.nsIn K mainGlobals "places_open" = some (some (.ref a28)))
    (l28 : K.lookup a28 = some ⟨oc28, od28, .func (PySem.W.fnOf "places_open" "places_open" (defArgs s_d58) (defBody s_d58) (defScope s_d58) .none kV28 dc28 pm28 an28 cd28 ct28), sl28⟩)
    (o28 : PySem.W.codeIn K cd28 "places_open" = true)
    (k28 : PySem.W.keepIn K (.ref a28) = true)
    (n29 : PySem.W.nsIn K mainGlobals "places_checked" = some (some (.ref a29)))
    (l29 : K.lookup a29 = some ⟨oc29, od29, .func (PySem.W.fnOf "places_checked" "places_checked" (defArgs s_d59) (defBody s_d59) (defScope s_d59) .none kV29 dc29 pm29 an29 cd29 ct29), sl29⟩)
    (o29 : PySem.W.codeIn K cd29 "places_checked" = true)
    (k29 : PySem.W.keepIn K (.ref a29) = true)
    (n30 : PySem.W.nsIn K mainGlobals "lines_in" = some (some (.ref a30)))
    (l30 : K.lookup a30 = some ⟨oc30, od30, .func (PySem.W.fnOf "lines_in" "lines_in" (defArgs s_d62) (defBody s_d62) (defScope s_d62) .none kV30 dc30 pm30 an30 cd30 ct30), sl30⟩)
    (o30 : PySem.W.codeIn K cd30 "lines_in" = true)
    (k30 : PySem.W.keepIn K (.ref a30) = true)
    (n31 : PySem.W.nsIn K mainGlobals "line_in" = some (some (.ref a31)))
    (l31 : K.lookup a31 = some ⟨oc31, od31, .func (PySem.W.fnOf "line_in" "line_in" (defArgs s_d63) (defBody s_d63) (defScope s_d63) .none kV31 dc31 pm31 an31 cd31 ct31), sl31⟩)
    (o31 : PySem.W.codeIn K cd31 "line_in" = true)
    (k31 : PySem.W.keepIn K (.ref a31) = true)
    (n32 : PySem.W.findIn K (.ref c5) "near" = some (some (.ref a32)))
    (l32 : K.lookup a32 = some ⟨oc32, od32, .func (PySem.W.fnOf "near" "Web.near" (defArgs s_c19m1) (defBody s_c19m1) (defScope s_c19m1) .none kV32 dc32 pm32 an32 cd32 ct32), sl32⟩)
    (o32 : PySem.W.codeIn K cd32 "Web.near" = true)
    (k32 : PySem.W.keepIn K (.ref a32) = true)
    (fn32 : PySem.W.isFn K (.ref a32) = true)
    (n33 : PySem.W.nsIn K mainGlobals "web_text" = some (some (.ref a33)))
    (l33 : K.lookup a33 = some ⟨oc33, od33, .func (PySem.W.fnOf "web_text" "web_text" (defArgs s_d64) (defBody s_d64) (defScope s_d64) .none kV33 dc33 pm33 an33 cd33 ct33), sl33⟩)
    (o33 : PySem.W.codeIn K cd33 "web_text" = true)
    (k33 : PySem.W.keepIn K (.ref a33) = true)
    (n34 : PySem.W.nsIn K mainGlobals "colours_in" = some (some (.ref a34)))
    (l34 : K.lookup a34 = some ⟨oc34, od34, .func (PySem.W.fnOf "colours_in" "colours_in" (defArgs s_d65) (defBody s_d65) (defScope s_d65) .none kV34 dc34 pm34 an34 cd34 ct34), sl34⟩)
    (o34 : PySem.W.codeIn K cd34 "colours_in" = true)
    (k34 : PySem.W.keepIn K (.ref a34) = true)
    (n35 : PySem.W.nsIn K mainGlobals "ties_in" = some (some (.ref a35)))
    (l35 : K.lookup a35 = some ⟨oc35, od35, .func (PySem.W.fnOf "ties_in" "ties_in" (defArgs s_d66) (defBody s_d66) (defScope s_d66) .none kV35 dc35 pm35 an35 cd35 ct35), sl35⟩)
    (o35 : PySem.W.codeIn K cd35 "ties_in" = true)
    (k35 : PySem.W.keepIn K (.ref a35) = true)
    (n36 : PySem.W.findIn K (.ref c5) "__init__" = some (some (.ref a36)))
    (l36 : K.lookup a36 = some ⟨oc36, od36, .func (PySem.W.fnOf "__init__" "Web.__init__" (defArgs s_c19m0) (defBody s_c19m0) (defScope s_c19m0) .none kV36 dc36 pm36 an36 cd36 ct36), sl36⟩)
    (o36 : PySem.W.codeIn K cd36 "Web.__init__" = true)
    (k36 : PySem.W.keepIn K (.ref a36) = true)
    (fn36 : PySem.W.isFn K (.ref a36) = true)
    (n37 : PySem.W.nsIn K mainGlobals "read_web" = some (some (.ref a37)))
    (l37 : K.lookup a37 = some ⟨oc37, od37, .func (PySem.W.fnOf "read_web" "read_web" (defArgs s_d67) (defBody s_d67) (defScope s_d67) .none kV37 dc37 pm37 an37 cd37 ct37), sl37⟩)
    (o37 : PySem.W.codeIn K cd37 "read_web" = true)
    (k37 : PySem.W.keepIn K (.ref a37) = true)
    (n38 : PySem.W.nsIn K mainGlobals "sentence_text" = some (some (.ref a38)))
    (l38 : K.lookup a38 = some ⟨oc38, od38, .func (PySem.W.fnOf "sentence_text" "sentence_text" (defArgs s_d68) (defBody s_d68) (defScope s_d68) .none kV38 dc38 pm38 an38 cd38 ct38), sl38⟩)
    (o38 : PySem.W.codeIn K cd38 "sentence_text" = true)
    (k38 : PySem.W.keepIn K (.ref a38) = true)
    (n39 : PySem.W.nsIn K mainGlobals "read_sentence" = some (some (.ref a39)))
    (l39 : K.lookup a39 = some ⟨oc39, od39, .func (PySem.W.fnOf "read_sentence" "read_sentence" (defArgs s_d69) (defBody s_d69) (defScope s_d69) .none kV39 dc39 pm39 an39 cd39 ct39), sl39⟩)
    (o39 : PySem.W.codeIn K cd39 "read_sentence" = true)
    (k39 : PySem.W.keepIn K (.ref a39) = true)
    (n40 : PySem.W.nsIn K mainGlobals "recipe_text" = some (some (.ref a40)))
    (l40 : K.lookup a40 = some ⟨oc40, od40, .func (PySem.W.fnOf "recipe_text" "recipe_text" (defArgs s_d70) (defBody s_d70) (defScope s_d70) .none kV40 dc40 pm40 an40 cd40 ct40), sl40⟩)
    (o40 : PySem.W.codeIn K cd40 "recipe_text" = true)
    (k40 : PySem.W.keepIn K (.ref a40) = true)
    (n41 : PySem.W.nsIn K mainGlobals "read_recipe" = some (some (.ref a41)))
    (l41 : K.lookup a41 = some ⟨oc41, od41, .func (PySem.W.fnOf "read_recipe" "read_recipe" (defArgs s_d71) (defBody s_d71) (defScope s_d71) .none kV41 dc41 pm41 an41 cd41 ct41), sl41⟩)
    (o41 : PySem.W.codeIn K cd41 "read_recipe" = true)
    (k41 : PySem.W.keepIn K (.ref a41) = true)
    (n42 : PySem.W.nsIn K mainGlobals "_law_fa_hat" = some (some (.ref a42)))
    (l42 : K.lookup a42 = some ⟨oc42, od42, .func (PySem.W.fnOf "_law_fa_hat" "_law_fa_hat" (defArgs s_d73) (defBody s_d73) (defScope s_d73) .none kV42 dc42 pm42 an42 cd42 ct42), sl42⟩)
    (o42 : PySem.W.codeIn K cd42 "_law_fa_hat" = true)
    (k42 : PySem.W.keepIn K (.ref a42) = true)
    (n43 : PySem.W.nsIn K mainGlobals "_law_fa_up" = some (some (.ref a43)))
    (l43 : K.lookup a43 = some ⟨oc43, od43, .func (PySem.W.fnOf "_law_fa_up" "_law_fa_up" (defArgs s_d74) (defBody s_d74) (defScope s_d74) .none kV43 dc43 pm43 an43 cd43 ct43), sl43⟩)
    (o43 : PySem.W.codeIn K cd43 "_law_fa_up" = true)
    (k43 : PySem.W.keepIn K (.ref a43) = true)
    (n44 : PySem.W.nsIn K mainGlobals "_law_fa_turned" = some (some (.ref a44)))
    (l44 : K.lookup a44 = some ⟨oc44, od44, .func (PySem.W.fnOf "_law_fa_turned" "_law_fa_turned" (defArgs s_d75) (defBody s_d75) (defScope s_d75) .none kV44 dc44 pm44 an44 cd44 ct44), sl44⟩)
    (o44 : PySem.W.codeIn K cd44 "_law_fa_turned" = true)
    (k44 : PySem.W.keepIn K (.ref a44) = true)
    (n45 : PySem.W.nsIn K mainGlobals "_law_right" = some (some (.ref a45)))
    (l45 : K.lookup a45 = some ⟨oc45, od45, .func (PySem.W.fnOf "_law_right" "_law_right" (defArgs s_d77) (defBody s_d77) (defScope s_d77) .none kV45 dc45 pm45 an45 (.ref a51) ct45), sl45⟩)
    (o45 : PySem.W.codeIn K (.ref a51) "_law_right" = true)
    (k45 : PySem.W.keepIn K (.ref a45) = true)
    (n46 : PySem.W.nsIn K mainGlobals "_law_webs_right" = some (some (.ref a46)))
    (l46 : K.lookup a46 = some ⟨oc46, od46, .func (PySem.W.fnOf "_law_webs_right" "_law_webs_right" (defArgs s_d78) (defBody s_d78) (defScope s_d78) .none kV46 dc46 pm46 an46 (.ref a53) ct46), sl46⟩)
    (o46 : PySem.W.codeIn K (.ref a53) "_law_webs_right" = true)
    (k46 : PySem.W.keepIn K (.ref a46) = true)
    (n47 : PySem.W.nsIn K mainGlobals "law" = some (some (.ref a47)))
    (l47 : K.lookup a47 = some ⟨oc47, od47, .func (PySem.W.fnOf "law" "law" (defArgs s_d79) (defBody s_d79) (defScope s_d79) .none kV47 dc47 pm47 an47 (.ref a55) ct47), sl47⟩)
    (o47 : PySem.W.codeIn K (.ref a55) "law" = true)
    (k47 : PySem.W.keepIn K (.ref a47) = true)
    (n48 : PySem.W.findIn K (.ref c5) "is_tied" = some (some (.ref a48)))
    (l48 : K.lookup a48 = some ⟨oc48, od48, .func (PySem.W.fnOf "is_tied" "Web.is_tied" (defArgs s_c19m2) (defBody s_c19m2) (defScope s_c19m2) .none kV48 dc48 pm48 an48 cd48 ct48), sl48⟩)
    (o48 : PySem.W.codeIn K cd48 "Web.is_tied" = true)
    (k48 : PySem.W.keepIn K (.ref a48) = true)
    (fn48 : PySem.W.isFn K (.ref a48) = true)
    (n49 : PySem.W.findIn K (.ref c5) "__contains__" = some (some (.ref a49)))
    (l49 : K.lookup a49 = some ⟨oc49, od49, .func (PySem.W.fnOf "__contains__" "Web.__contains__" (defArgs s_c19m4) (defBody s_c19m4) (defScope s_c19m4) .none kV49 dc49 pm49 an49 cd49 ct49), sl49⟩)
    (o49 : PySem.W.codeIn K cd49 "Web.__contains__" = true)
    (k49 : PySem.W.keepIn K (.ref a49) = true)
    (fn49 : PySem.W.isFn K (.ref a49) = true)
    (n50 : PySem.W.nsIn K mainGlobals "_law_met" = some (some (.ref a50)))
    (l50 : K.lookup a50 = some ⟨oc50, od50, .func (PySem.W.fnOf "_law_met" "_law_met" (defArgs s_d76) (defBody s_d76) (defScope s_d76) .none kV50 dc50 pm50 an50 cd50 ct50), sl50⟩)
    (o50 : PySem.W.codeIn K cd50 "_law_met" = true)
    (k50 : PySem.W.keepIn K (.ref a50) = true)
    (n57 : PySem.W.findIn K (.ref c3) "__init__" = some (some (.ref a57)))
    (l57 : K.lookup a57 = some ⟨oc57, od57, .func (PySem.W.fnOf "__init__" "InvalidNumber.__init__" (defArgs s_i3) (defBody s_i3) (defScope s_i3) .none kV57 dc57 pm57 an57 cd57 ct57), sl57⟩)
    (o57 : PySem.W.codeIn K cd57 "InvalidNumber.__init__" = true)
    (k57 : PySem.W.keepIn K (.ref a57) = true)
    (fn57 : PySem.W.isFn K (.ref a57) = true)
    (n58 : PySem.W.findIn K (.ref c4) "__init__" = some (some (.ref a58)))
    (l58 : K.lookup a58 = some ⟨oc58, od58, .func (PySem.W.fnOf "__init__" "ParseError.__init__" (defArgs s_i4) (defBody s_i4) (defScope s_i4) .none kV58 dc58 pm58 an58 cd58 ct58), sl58⟩)
    (o58 : PySem.W.codeIn K cd58 "ParseError.__init__" = true)
    (k58 : PySem.W.keepIn K (.ref a58) = true)
    (fn58 : PySem.W.isFn K (.ref a58) = true)
    (cc_law_right : PySem.W.codeHdIn K a51 a52 = true)
    (ct_law_right : K.lookup a52 = none)
    (cc_law_webs_right : PySem.W.codeHdIn K a53 a54 = true)
    (ct_law_webs_right : K.lookup a54 = none)
    (cclaw : PySem.W.codeHdIn K a55 a56 = true)
    (ctlaw : K.lookup a56 = none)
    (tne0_1 : a52 ≠ a54)
    (tne0_2 : a52 ≠ a56)
    (tne1_2 : a54 ≠ a56)
    (b_abs : PySem.W.nsIn K mainGlobals "abs" = some none)
    (b_all : PySem.W.nsIn K mainGlobals "all" = some none)
    (b_enumerate : PySem.W.nsIn K mainGlobals "enumerate" = some none)
    (b_int : PySem.W.nsIn K mainGlobals "int" = some none)
    (b_isinstance : PySem.W.nsIn K mainGlobals "isinstance" = some none)
    (b_len : PySem.W.nsIn K mainGlobals "len" = some none)
    (b_list : PySem.W.nsIn K mainGlobals "list" = some none)
    (b_max : PySem.W.nsIn K mainGlobals "max" = some none)
    (b_min : PySem.W.nsIn K mainGlobals "min" = some none)
    (b_range : PySem.W.nsIn K mainGlobals "range" = some none)
    (b_repr : PySem.W.nsIn K mainGlobals "repr" = some none)
    (b_set : PySem.W.nsIn K mainGlobals "set" = some none)
    (b_sorted : PySem.W.nsIn K mainGlobals "sorted" = some none)
    (b_str : PySem.W.nsIn K mainGlobals "str" = some none)
    (b_tuple : PySem.W.nsIn K mainGlobals "tuple" = some none)
    (b_type : PySem.W.nsIn K mainGlobals "type" = some none)
    (pg5 : PySem.W.plainGet K c5 Str.empty = true)
    (hd5 : PySem.W.hasDictIn K c5 = true)
    (po5 : PySem.W.plainOver K c5 = true)
    (sa5 : PySem.W.findIn K (.ref c5) "__setattr__" = some (some (.builtin "object.__setattr__")))
    (ha5 : PySem.W.findIn K (.ref c5) "__class__" = some (some (.builtin "object.__class__")))
    (mi5 : PySem.W.makesIn K c5 = true)
    (kc5 : PySem.W.keepIn K (.ref c5) = true)
    (hm5 : PySem.W.mroIn K c5 (.type "object") = some true)
    (me5 : PySem.W.kitOne K (.ref c5) (.ref c5) = some true)
    (na5_colours : PySem.W.findIn K (.ref c5) "colours" = some none)
    (na5_ties : PySem.W.findIn K (.ref c5) "ties" = some none)
    (na5__near : PySem.W.findIn K (.ref c5) "_near" = some none)
    (na5_degrees : PySem.W.findIn K (.ref c5) "degrees" = some none)
    (hn : PySem.W.specialIn K (.builtin "object.__class__") "__get__" = some (some (.builtin "getset_descriptor.__get__")))
    (htk : PySem.W.takesIn K (.builtin "object.__class__") = some true)
    (isi : isiChk K (fun n => [c0, c1, c2, c3, c4, c5, c6].getD n 0) iOwn iTab (fun n => gU [c0, c1, c2, c3, c4, c5, c6] n) = true)
    (tyo : iOwn.all (fun o => PySem.W.typeIn K (.ref ([c0, c1, c2, c3, c4, c5, c6].getD (o - 10) 0)) == some (.type "type")) = true)
    (apt : aptChk K [c0, c1, c2, c3, c4] = true)
    (sb6 : PySem.W.subIn K (.ref c6) (.type "BaseException") = some true)
    (ty6 : PySem.W.typeIn K (.ref c6) = some (.type "type"))
    (ke6 : PySem.W.keepIn K (.ref c6) = true)
    (bsp6 : PySem.W.specialIn K (.ref c6) "__getattribute__" = some (some (.builtin "type.__getattribute__")))
    (brd6 : PySem.W.readsIn K c6 (.type "type") = true)
    (bfc6 : PySem.W.findCls K (.ref c6) (.type "type") "__init__" = some (.val (.builtin "ValueError.__init__")))
    (sb0 : PySem.W.subIn K (.ref c0) (.type "BaseException") = some true)
    (ty0 : PySem.W.typeIn K (.ref c0) = some (.type "type"))
    (ke0 : PySem.W.keepIn K (.ref c0) = true)
    (ex0 : PySem.W.excIn K c0 [.type "ValueError", .type "Exception", .type "BaseException", .type "object"] "ValueError.__new__" = true)
    (sb1 : PySem.W.subIn K (.ref c1) (.type "BaseException") = some true)
    (ty1 : PySem.W.typeIn K (.ref c1) = some (.type "type"))
    (ke1 : PySem.W.keepIn K (.ref c1) = true)
    (ex1 : PySem.W.excIn K c1 [.type "ValueError", .type "Exception", .type "BaseException", .type "object"] "ValueError.__new__" = true)
    (sb2 : PySem.W.subIn K (.ref c2) (.type "BaseException") = some true)
    (ty2 : PySem.W.typeIn K (.ref c2) = some (.type "type"))
    (ke2 : PySem.W.keepIn K (.ref c2) = true)
    (ex2 : PySem.W.excIn K c2 [.type "ValueError", .type "Exception", .type "BaseException", .type "object"] "ValueError.__new__" = true)
    (sb3 : PySem.W.subIn K (.ref c3) (.type "BaseException") = some true)
    (ty3 : PySem.W.typeIn K (.ref c3) = some (.type "type"))
    (ke3 : PySem.W.keepIn K (.ref c3) = true)
    (cl3 : K.lookup c3 = some (excClassObj nm3 q3 c3 N3 bs3 bm3 true sn3 sub3 ab3 col3 dd3 xa3 xb3 xd3 xe3 xf3 "ValueError.__new__"))
    (ve3 : PySem.HandSPX.refsVE bm3 = true)
    (esa3 : PySem.W.findIn K (.ref c3) "__setattr__" = some (some (.builtin "object.__setattr__")))
    (ega3 : PySem.W.findIn K (.ref c3) "__getattribute__" = some (some (.builtin "BaseException.__getattribute__")))
    (egg3 : PySem.W.findIn K (.ref c3) "__getattr__" = some none)
    (ehd3 : PySem.W.hasDictIn K c3 = true)
    (eno3 : PySem.W.findIn K (.ref c3) "given" = some none)
    (eti3 : PySem.W.typeIn K (.ref a57) = some (.type "function"))
    (sb4 : PySem.W.subIn K (.ref c4) (.type "BaseException") = some true)
    (ty4 : PySem.W.typeIn K (.ref c4) = some (.type "type"))
    (ke4 : PySem.W.keepIn K (.ref c4) = true)
    (cl4 : K.lookup c4 = some (excClassObj nm4 q4 c4 N4 bs4 bm4 true sn4 sub4 ab4 col4 dd4 xa4 xb4 xd4 xe4 xf4 "ValueError.__new__"))
    (ve4 : PySem.HandSPX.refsVE bm4 = true)
    (esa4 : PySem.W.findIn K (.ref c4) "__setattr__" = some (some (.builtin "object.__setattr__")))
    (ega4 : PySem.W.findIn K (.ref c4) "__getattribute__" = some (some (.builtin "BaseException.__getattribute__")))
    (egg4 : PySem.W.findIn K (.ref c4) "__getattr__" = some none)
    (ehd4 : PySem.W.hasDictIn K c4 = true)
    (eno4 : PySem.W.findIn K (.ref c4) "at" = some none)
    (eti4 : PySem.W.typeIn K (.ref a58) = some (.type "function"))
    (nk59 : PySem.W.nsIn K mainGlobals "LENGTHS_sentences" = some (some (.ref a59)))
    (kd59 : He.dicW K a59 = some (He.keysIn w.params ["tie", "same", "colour", "not", "all", "some", "least"]))
    (kw59 : valI K a59 [("tie", 3), ("same", 3), ("colour", 3), ("not", 2), ("all", 2), ("some", 2), ("least", 4)] = true)
    (nk60 : PySem.W.nsIn K mainGlobals "LENGTHS_lines" = some (some (.ref a60)))
    (kd60 : He.dicW K a60 = some (He.keysIn w.params ["one", "point", "tie", "same", "colour", "glue", "sum"]))
    (kw60 : valI K a60 [("one", 1), ("point", 2), ("tie", 3), ("same", 3), ("colour", 3), ("glue", 3), ("sum", 3)] = true)
    (nv0 : PySem.W.nsIn K mainGlobals "MOST_POINTS" = some (some u0))
    (vv0 : RelV (.int (40)) u0)
    (nv1 : PySem.W.nsIn K mainGlobals "LEAST_COLOUR" = some (some u1))
    (vv1 : RelV (.int (-1)) u1)
    (nv2 : PySem.W.nsIn K mainGlobals "GREATEST_COLOUR" = some (some u2))
    (vv2 : RelV (.int (9)) u2)
    (nv3 : PySem.W.nsIn K mainGlobals "GREATEST_K" = some (some u3))
    (vv3 : RelV (.int (3)) u3)
    (nv4 : PySem.W.nsIn K mainGlobals "MOST_LINES_sentences" = some (some u4))
    (vv4 : RelV (.int (2000)) u4)
    (nv5 : PySem.W.nsIn K mainGlobals "MOST_LEAST" = some (some u5))
    (vv5 : RelV (.int (99)) u5)
    (nv6 : PySem.W.nsIn K mainGlobals "MOST_WITHIN" = some (some u6))
    (vv6 : RelV (.int (40)) u6)
    (nv7 : PySem.W.nsIn K mainGlobals "MADE_OF_NONE" = some (some u7))
    (vv7 : kvOk K (.tup [(.tup [(.str "all"), (.tup [])]), (.tup [(.str "some"), (.tup [])])]) u7 = true)
    (nv8 : PySem.W.nsIn K mainGlobals "DIGITS" = some (some u8))
    (vv8 : kvOk K (.str "0123456789") u8 = true)
    (nv9 : PySem.W.nsIn K mainGlobals "MOST_DIGITS" = some (some u9))
    (vv9 : RelV (.int (9)) u9)
    (nv10 : PySem.W.nsIn K mainGlobals "NO_LOT" = some (some u10))
    (vv10 : kvOk K (.str "-") u10 = true)
    (nv11 : PySem.W.nsIn K mainGlobals "MOST_COLOUR" = some (some u11))
    (vv11 : RelV (.int (9)) u11)
    (nv12 : PySem.W.nsIn K mainGlobals "GREATEST_PASSED" = some (some u12))
    (vv12 : RelV (.int (999999999)) u12)
    (nv13 : PySem.W.nsIn K mainGlobals "MOST_LINES_recipes" = some (some u13))
    (vv13 : RelV (.int (2000)) u13)
    (nv14 : PySem.W.nsIn K mainGlobals "LOTS" = some (some u14))
    (vv14 : kvOk K (.tup [(.str "all"), (.str "some")]) u14 = true)
    : ∃ (fd : FuncData) (cs : List (Addr × Addr)) (sp : Sp), LawG l w K 13 63 "script" fa mg h fd cs sp := by
  have e := hfa.symm.trans (PySem.W.mg_of KX G n47)
  have e2 : a47 = fa := by
    injection e with e
    injection e with e
    exact e.symm
  subst e2
  let gl : List V := [.ty "int", .ty "bool", .ty "tuple", .ty "list", .ty "dict", .ty "str", .ref c6, .ref c0, .ref c1, .ref c2, .ref c3, .ref c4, .ref c5, .ref a0, .ref a1, .ref a3, .ref a4, .ref a5, .ref a6, .ref a7, .ref a8, .ref a9, .ref a10, .ref a11, .ref a12, .ref a13, .ref a14, .ref a16, .ref a17, .ref a18, .ref a19, .ref a20, .ref a21, .ref a22, .ref a23, .ref a24, .ref a25, .ref a26, .ref a27, .ref a28, .ref a29, .ref a30, .ref a31, .ref a33, .ref a34, .ref a35, .ref a37, .ref a38, .ref a39, .ref a40, .ref a41, .ref a42, .ref a43, .ref a44, .ref a50, .ref a45, .ref a46, .ref a47, .ref a59, .ref a60]
  let cl : List Addr := [c0, c1, c2, c3, c4, c5, c6]
  let al : List Addr := [a0, a1, a2, a3, a4, a5, a6, a7, a8, a9, a10, a11, a12, a13, a14, a15, a16, a17, a18, a19, a20, a21, a22, a23, a24, a25, a26, a27, a28, a29, a30, a31, a32, a33, a34, a35, a36, a37, a38, a39, a40, a41, a42, a43, a44, a45, a46, a47, a48, a49, a50, a51, a52, a53, a54, a55, a56, a57, a58, a59, a60]
  let T : Tx := { P := l.prog, w := w, K := K, g := fun n => gl.getD n .non, cA := fun n => cl.getD n 0, cN := cNm, ex := none, kt := true, tb := [(a52, (("_law_right" : Str) ++ ".<locals>.") ++ "<lambda>"), (a54, (("_law_webs_right" : Str) ++ ".<locals>.") ++ "<lambda>"), (a56, (("law" : Str) ++ ".<locals>.") ++ "<lambda>")] }
  have F0 := fun_mk (st := s_d9) l0 o0 k0
  have F1 := fun_mk (st := s_d10) l1 o1 k1
  have F2 := fun_mk (st := s_c19m3) l2 o2 k2
  have F3 := fun_mk (st := s_d11) l3 o3 k3
  have F4 := fun_mk (st := s_d16) l4 o4 k4
  have F5 := fun_mk (st := s_d17) l5 o5 k5
  have F6 := fun_mk (st := s_d18) l6 o6 k6
  have F7 := fun_mk (st := s_d20) l7 o7 k7
  have F8 := fun_mk (st := s_d21) l8 o8 k8
  have F9 := fun_mk (st := s_d24) l9 o9 k9
  have F10 := fun_mk (st := s_d31) l10 o10 k10
  have F11 := fun_mk (st := s_d32) l11 o11 k11
  have F12 := fun_mk (st := s_d33) l12 o12 k12
  have F13 := fun_mk (st := s_d34) l13 o13 k13
  have F14 := fun_mk (st := s_d35) l14 o14 k14
  have F15 := fun_mk (st := s_c19m5) l15 o15 k15
  have F16 := fun_mk (st := s_d36) l16 o16 k16
  have F17 := fun_mk (st := s_d37) l17 o17 k17
  have F18 := fun_mk (st := s_d38) l18 o18 k18
  have F19 := fun_mk (st := s_d43) l19 o19 k19
  have F20 := fun_mk (st := s_d44) l20 o20 k20
  have F21 := fun_mk (st := s_d45) l21 o21 k21
  have F22 := fun_mk (st := s_d46) l22 o22 k22
  have F23 := fun_mk (st := s_d47) l23 o23 k23
  have F24 := fun_mk (st := s_d52) l24 o24 k24
  have F25 := fun_mk (st := s_d53) l25 o25 k25
  have F26 := fun_mk (st := s_d54) l26 o26 k26
  have F27 := fun_mk (st := s_d55) l27 o27 k27
  have F28 := fun_mk (st := s_d58) l28 o28 k28
  have F29 := fun_mk (st := s_d59) l29 o29 k29
  have F30 := fun_mk (st := s_d62) l30 o30 k30
  have F31 := fun_mk (st := s_d63) l31 o31 k31
  have F32 := fun_mk (st := s_c19m1) l32 o32 k32
  have F33 := fun_mk (st := s_d64) l33 o33 k33
  have F34 := fun_mk (st := s_d65) l34 o34 k34
  have F35 := fun_mk (st := s_d66) l35 o35 k35
  have F36 := fun_mk (st := s_c19m0) l36 o36 k36
  have F37 := fun_mk (st := s_d67) l37 o37 k37
  have F38 := fun_mk (st := s_d68) l38 o38 k38
  have F39 := fun_mk (st := s_d69) l39 o39 k39
  have F40 := fun_mk (st := s_d70) l40 o40 k40
  have F41 := fun_mk (st := s_d71) l41 o41 k41
  have F42 := fun_mk (st := s_d73) l42 o42 k42
  have F43 := fun_mk (st := s_d74) l43 o43 k43
  have F44 := fun_mk (st := s_d75) l44 o44 k44
  have F45 := fun_mk (st := s_d77) l45 o45 k45
  have F46 := fun_mk (st := s_d78) l46 o46 k46
  have F47 := fun_mk (st := s_d79) l47 o47 k47
  have F48 := fun_mk (st := s_c19m2) l48 o48 k48
  have F49 := fun_mk (st := s_c19m4) l49 o49 k49
  have F50 := fun_mk (st := s_d76) l50 o50 k50
  have F57 := fun_mk (st := s_i3) l57 o57 k57
  have F58 := fun_mk (st := s_i4) l58 o58 k58
  let fl : List FuncData := [(PySem.W.fnOf "is_between" "is_between" (defArgs s_d9) (defBody s_d9) (defScope s_d9) .none kV0 dc0 pm0 an0 cd0 ct0),
    (PySem.W.fnOf "are_between" "are_between" (defArgs s_d10) (defBody s_d10) (defScope s_d10) .none kV1 dc1 pm1 an1 cd1 ct1),
    (PySem.W.fnOf "__len__" "Web.__len__" (defArgs s_c19m3) (defBody s_c19m3) (defScope s_c19m3) .none kV2 dc2 pm2 an2 cd2 ct2),
    (PySem.W.fnOf "is_ascending" "is_ascending" (defArgs s_d11) (defBody s_d11) (defScope s_d11) .none kV3 dc3 pm3 an3 cd3 ct3),
    (PySem.W.fnOf "are_colours" "are_colours" (defArgs s_d16) (defBody s_d16) (defScope s_d16) .none kV4 dc4 pm4 an4 cd4 ct4),
    (PySem.W.fnOf "are_ties" "are_ties" (defArgs s_d17) (defBody s_d17) (defScope s_d17) .none kV5 dc5 pm5 an5 cd5 ct5),
    (PySem.W.fnOf "near_points" "near_points" (defArgs s_d18) (defBody s_d18) (defScope s_d18) .none kV6 dc6 pm6 an6 cd6 ct6),
    (PySem.W.fnOf "check_web" "check_web" (defArgs s_d20) (defBody s_d20) (defScope s_d20) .none kV7 dc7 pm7 an7 cd7 ct7),
    (PySem.W.fnOf "check_point" "check_point" (defArgs s_d21) (defBody s_d21) (defScope s_d21) .none kV8 dc8 pm8 an8 cd8 ct8),
    (PySem.W.fnOf "check_k" "check_k" (defArgs s_d24) (defBody s_d24) (defScope s_d24) .none kV9 dc9 pm9 an9 cd9 ct9),
    (PySem.W.fnOf "bits_of_two" "bits_of_two" (defArgs s_d31) (defBody s_d31) (defScope s_d31) .none kV10 dc10 pm10 an10 cd10 ct10),
    (PySem.W.fnOf "bits_of_coloured" "bits_of_coloured" (defArgs s_d32) (defBody s_d32) (defScope s_d32) .none kV11 dc11 pm11 an11 cd11 ct11),
    (PySem.W.fnOf "bits_of_many" "bits_of_many" (defArgs s_d33) (defBody s_d33) (defScope s_d33) .none kV12 dc12 pm12 an12 cd12 ct12),
    (PySem.W.fnOf "bits_of_least" "bits_of_least" (defArgs s_d34) (defBody s_d34) (defScope s_d34) .none kV13 dc13 pm13 an13 cd13 ct13),
    (PySem.W.fnOf "bits_of_line" "bits_of_line" (defArgs s_d35) (defBody s_d35) (defScope s_d35) .none kV14 dc14 pm14 an14 cd14 ct14),
    (PySem.W.fnOf "__eq__" "Web.__eq__" (defArgs s_c19m5) (defBody s_c19m5) (defScope s_c19m5) .none kV15 dc15 pm15 an15 cd15 ct15),
    (PySem.W.fnOf "bits_of_lines" "bits_of_lines" (defArgs s_d36) (defBody s_d36) (defScope s_d36) .none kV16 dc16 pm16 an16 cd16 ct16),
    (PySem.W.fnOf "is_sentence_of" "is_sentence_of" (defArgs s_d37) (defBody s_d37) (defScope s_d37) .none kV17 dc17 pm17 an17 cd17 ct17),
    (PySem.W.fnOf "check_sentence" "check_sentence" (defArgs s_d38) (defBody s_d38) (defScope s_d38) .none kV18 dc18 pm18 an18 cd18 ct18),
    (PySem.W.fnOf "number_in" "number_in" (defArgs s_d43) (defBody s_d43) (defScope s_d43) .none kV19 dc19 pm19 an19 cd19 ct19),
    (PySem.W.fnOf "lot_in" "lot_in" (defArgs s_d44) (defBody s_d44) (defScope s_d44) .none kV20 dc20 pm20 an20 cd20 ct20),
    (PySem.W.fnOf "lot_text" "lot_text" (defArgs s_d45) (defBody s_d45) (defScope s_d45) .none kV21 dc21 pm21 an21 cd21 ct21),
    (PySem.W.fnOf "member_text" "member_text" (defArgs s_d46) (defBody s_d46) (defScope s_d46) .none kV22 dc22 pm22 an22 cd22 ct22),
    (PySem.W.fnOf "line_text" "line_text" (defArgs s_d47) (defBody s_d47) (defScope s_d47) .none kV23 dc23 pm23 an23 cd23 ct23),
    (PySem.W.fnOf "is_like_line" "is_like_line" (defArgs s_d52) (defBody s_d52) (defScope s_d52) .none kV24 dc24 pm24 an24 cd24 ct24),
    (PySem.W.fnOf "places_of_first" "places_of_first" (defArgs s_d53) (defBody s_d53) (defScope s_d53) .none kV25 dc25 pm25 an25 cd25 ct25),
    (PySem.W.fnOf "places_of_line" "places_of_line" (defArgs s_d54) (defBody s_d54) (defScope s_d54) .none kV26 dc26 pm26 an26 cd26 ct26),
    (PySem.W.fnOf "places_of" "places_of" (defArgs s_d55) (defBody s_d55) (defScope s_d55) .none kV27 dc27 pm27 an27 cd27 ct27),
    (PySem.W.fnOf "places_open" "places_open" (defArgs s_d58) (defBody s_d58) (defScope s_d58) .none kV28 dc28 pm28 an28 cd28 ct28),
    (PySem.W.fnOf "places_checked" "places_checked" (defArgs s_d59) (defBody s_d59) (defScope s_d59) .none kV29 dc29 pm29 an29 cd29 ct29),
    (PySem.W.fnOf "lines_in" "lines_in" (defArgs s_d62) (defBody s_d62) (defScope s_d62) .none kV30 dc30 pm30 an30 cd30 ct30),
    (PySem.W.fnOf "line_in" "line_in" (defArgs s_d63) (defBody s_d63) (defScope s_d63) .none kV31 dc31 pm31 an31 cd31 ct31),
    (PySem.W.fnOf "near" "Web.near" (defArgs s_c19m1) (defBody s_c19m1) (defScope s_c19m1) .none kV32 dc32 pm32 an32 cd32 ct32),
    (PySem.W.fnOf "web_text" "web_text" (defArgs s_d64) (defBody s_d64) (defScope s_d64) .none kV33 dc33 pm33 an33 cd33 ct33),
    (PySem.W.fnOf "colours_in" "colours_in" (defArgs s_d65) (defBody s_d65) (defScope s_d65) .none kV34 dc34 pm34 an34 cd34 ct34),
    (PySem.W.fnOf "ties_in" "ties_in" (defArgs s_d66) (defBody s_d66) (defScope s_d66) .none kV35 dc35 pm35 an35 cd35 ct35),
    (PySem.W.fnOf "__init__" "Web.__init__" (defArgs s_c19m0) (defBody s_c19m0) (defScope s_c19m0) .none kV36 dc36 pm36 an36 cd36 ct36),
    (PySem.W.fnOf "read_web" "read_web" (defArgs s_d67) (defBody s_d67) (defScope s_d67) .none kV37 dc37 pm37 an37 cd37 ct37),
    (PySem.W.fnOf "sentence_text" "sentence_text" (defArgs s_d68) (defBody s_d68) (defScope s_d68) .none kV38 dc38 pm38 an38 cd38 ct38),
    (PySem.W.fnOf "read_sentence" "read_sentence" (defArgs s_d69) (defBody s_d69) (defScope s_d69) .none kV39 dc39 pm39 an39 cd39 ct39),
    (PySem.W.fnOf "recipe_text" "recipe_text" (defArgs s_d70) (defBody s_d70) (defScope s_d70) .none kV40 dc40 pm40 an40 cd40 ct40),
    (PySem.W.fnOf "read_recipe" "read_recipe" (defArgs s_d71) (defBody s_d71) (defScope s_d71) .none kV41 dc41 pm41 an41 cd41 ct41),
    (PySem.W.fnOf "_law_fa_hat" "_law_fa_hat" (defArgs s_d73) (defBody s_d73) (defScope s_d73) .none kV42 dc42 pm42 an42 cd42 ct42),
    (PySem.W.fnOf "_law_fa_up" "_law_fa_up" (defArgs s_d74) (defBody s_d74) (defScope s_d74) .none kV43 dc43 pm43 an43 cd43 ct43),
    (PySem.W.fnOf "_law_fa_turned" "_law_fa_turned" (defArgs s_d75) (defBody s_d75) (defScope s_d75) .none kV44 dc44 pm44 an44 cd44 ct44),
    (PySem.W.fnOf "_law_right" "_law_right" (defArgs s_d77) (defBody s_d77) (defScope s_d77) .none kV45 dc45 pm45 an45 (.ref a51) ct45),
    (PySem.W.fnOf "_law_webs_right" "_law_webs_right" (defArgs s_d78) (defBody s_d78) (defScope s_d78) .none kV46 dc46 pm46 an46 (.ref a53) ct46),
    (PySem.W.fnOf "law" "law" (defArgs s_d79) (defBody s_d79) (defScope s_d79) .none kV47 dc47 pm47 an47 (.ref a55) ct47),
    (PySem.W.fnOf "is_tied" "Web.is_tied" (defArgs s_c19m2) (defBody s_c19m2) (defScope s_c19m2) .none kV48 dc48 pm48 an48 cd48 ct48),
    (PySem.W.fnOf "__contains__" "Web.__contains__" (defArgs s_c19m4) (defBody s_c19m4) (defScope s_c19m4) .none kV49 dc49 pm49 an49 cd49 ct49),
    (PySem.W.fnOf "_law_met" "_law_met" (defArgs s_d76) (defBody s_d76) (defScope s_d76) .none kV50 dc50 pm50 an50 cd50 ct50),
    (PySem.W.fnOf "law" "law" (defArgs s_d79) (defBody s_d79) (defScope s_d79) .none kV47 dc47 pm47 an47 (.ref a55) ct47),
    (PySem.W.fnOf "law" "law" (defArgs s_d79) (defBody s_d79) (defScope s_d79) .none kV47 dc47 pm47 an47 (.ref a55) ct47),
    (PySem.W.fnOf "law" "law" (defArgs s_d79) (defBody s_d79) (defScope s_d79) .none kV47 dc47 pm47 an47 (.ref a55) ct47),
    (PySem.W.fnOf "law" "law" (defArgs s_d79) (defBody s_d79) (defScope s_d79) .none kV47 dc47 pm47 an47 (.ref a55) ct47),
    (PySem.W.fnOf "law" "law" (defArgs s_d79) (defBody s_d79) (defScope s_d79) .none kV47 dc47 pm47 an47 (.ref a55) ct47),
    (PySem.W.fnOf "law" "law" (defArgs s_d79) (defBody s_d79) (defScope s_d79) .none kV47 dc47 pm47 an47 (.ref a55) ct47),
    (PySem.W.fnOf "__init__" "InvalidNumber.__init__" (defArgs s_i3) (defBody s_i3) (defScope s_i3) .none kV57 dc57 pm57 an57 cd57 ct57),
    (PySem.W.fnOf "__init__" "ParseError.__init__" (defArgs s_i4) (defBody s_i4) (defScope s_i4) .none kV58 dc58 pm58 an58 cd58 ct58),
    (PySem.W.fnOf "law" "law" (defArgs s_d79) (defBody s_d79) (defScope s_d79) .none kV47 dc47 pm47 an47 (.ref a55) ct47),
    (PySem.W.fnOf "law" "law" (defArgs s_d79) (defBody s_d79) (defScope s_d79) .none kV47 dc47 pm47 an47 (.ref a55) ct47)]
  let cvl : List Value := [u0, u1, u2, u3, u4, u5, u6, u7, u8, u9, u10, u11, u12, u13, u14]
  have OC3 : OexC K c3 := ⟨⟨_, _, _, _, _, _, _, _, _, _, _, _, _, _, _, cl3, ve3⟩, esa3, sb3, ty3, ke3⟩
  have OC4 : OexC K c4 := ⟨⟨_, _, _, _, _, _, _, _, _, _, _, _, _, _, _, cl4, ve4⟩, esa4, sb4, ty4, ke4⟩
  have IK5 : InsK K c5 := ⟨⟨pg5, hd5, po5, sa5⟩, ha5, hn, htk, hm5⟩
  have Z : ∀ base : Heap, Fx l.prog w K mg base T (fun n => al.getD n 0) (fun n => fl.getD n (PySem.W.fnOf "law" "law" (defArgs s_d79) (defBody s_d79) (defScope s_d79) .none kV47 dc47 pm47 an47 (.ref a55) ct47)) (fun n => cvl.getD n .none) [] := fun base =>
    { apart := apart_of (cs := [c0, c1, c2, c3, c4]) rfl apt (fun i hi => by
        have : i = 0 ∨ i = 1 ∨ i = 2 ∨ i = 3 ∨ i = 4 := by omega
        rcases this with rfl | rfl | rfl | rfl | rfl <;> rfl)
      b_abs := PySem.W.mg_none_of KX G b_abs
      b_all := PySem.W.mg_none_of KX G b_all
      b_enumerate := PySem.W.mg_none_of KX G b_enumerate
      b_int := PySem.W.mg_none_of KX G b_int
      b_isinstance := PySem.W.mg_none_of KX G b_isinstance
      b_len := PySem.W.mg_none_of KX G b_len
      b_list := PySem.W.mg_none_of KX G b_list
      b_max := PySem.W.mg_none_of KX G b_max
      b_min := PySem.W.mg_none_of KX G b_min
      b_range := PySem.W.mg_none_of KX G b_range
      b_repr := PySem.W.mg_none_of KX G b_repr
      b_set := PySem.W.mg_none_of KX G b_set
      b_sorted := PySem.W.mg_none_of KX G b_sorted
      b_str := PySem.W.mg_none_of KX G b_str
      b_tuple := PySem.W.mg_none_of KX G b_tuple
      b_type := PySem.W.mg_none_of KX G b_type
      cN := rfl
      cls5 := IK5.cl
      co__law_right := rfl
      co__law_webs_right := rfl
      co_law := rfl
      d_c19m0 := F36.binds fun _ _ _ _ _ _ us hl => match us, hl with | [_, _, _], _ => rfl
      d_c19m1 := F32.binds fun _ _ _ _ _ _ us hl => match us, hl with | [_, _], _ => rfl
      d_c19m3 := F2.binds fun _ _ _ _ _ _ us hl => match us, hl with | [_], _ => rfl
      d_c19m5 := F15.binds fun _ _ _ _ _ _ us hl => match us, hl with | [_, _], _ => rfl
      d_d10 := F1.binds fun _ _ _ _ _ _ us hl => match us, hl with | [_, _, _], _ => rfl
      d_d11 := F3.binds fun _ _ _ _ _ _ us hl => match us, hl with | [_], _ => rfl
      d_d16 := F4.binds fun _ _ _ _ _ _ us hl => match us, hl with | [_], _ => rfl
      d_d17 := F5.binds fun _ _ _ _ _ _ us hl => match us, hl with | [_, _], _ => rfl
      d_d18 := F6.binds fun _ _ _ _ _ _ us hl => match us, hl with | [_, _], _ => rfl
      d_d20 := F7.binds fun _ _ _ _ _ _ us hl => match us, hl with | [_], _ => rfl
      d_d21 := F8.binds fun _ _ _ _ _ _ us hl => match us, hl with | [_, _], _ => rfl
      d_d24 := F9.binds fun _ _ _ _ _ _ us hl => match us, hl with | [_], _ => rfl
      d_d31 := F10.binds fun _ _ _ _ _ _ us hl => match us, hl with | [_, _, _], _ => rfl
      d_d32 := F11.binds fun _ _ _ _ _ _ us hl => match us, hl with | [_, _], _ => rfl
      d_d33 := F12.binds fun _ _ _ _ _ _ us hl => match us, hl with | [_, _], _ => rfl
      d_d34 := F13.binds fun _ _ _ _ _ _ us hl => match us, hl with | [_, _, _], _ => rfl
      d_d35 := F14.binds fun _ _ _ _ _ _ us hl => match us, hl with | [_, _, _], _ => rfl
      d_d36 := F16.binds fun _ _ _ _ _ _ us hl => match us, hl with | [_, _], _ => rfl
      d_d37 := F17.binds fun _ _ _ _ _ _ us hl => match us, hl with | [_, _], _ => rfl
      d_d38 := F18.binds fun _ _ _ _ _ _ us hl => match us, hl with | [_, _], _ => rfl
      d_d43 := F19.binds fun _ _ _ _ _ _ us hl => match us, hl with | [_], _ => rfl
      d_d44 := F20.binds fun _ _ _ _ _ _ us hl => match us, hl with | [_], _ => rfl
      d_d45 := F21.binds fun _ _ _ _ _ _ us hl => match us, hl with | [_], _ => rfl
      d_d46 := F22.binds fun _ _ _ _ _ _ us hl => match us, hl with | [_], _ => rfl
      d_d47 := F23.binds fun _ _ _ _ _ _ us hl => match us, hl with | [_], _ => rfl
      d_d52 := F24.binds fun _ _ _ _ _ _ us hl => match us, hl with | [_], _ => rfl
      d_d53 := F25.binds fun _ _ _ _ _ _ us hl => match us, hl with | [_, _], _ => rfl
      d_d54 := F26.binds fun _ _ _ _ _ _ us hl => match us, hl with | [_, _, _], _ => rfl
      d_d55 := F27.binds fun _ _ _ _ _ _ us hl => match us, hl with | [_, _], _ => rfl
      d_d58 := F28.binds fun _ _ _ _ _ _ us hl => match us, hl with | [_, _], _ => rfl
      d_d59 := F29.binds fun _ _ _ _ _ _ us hl => match us, hl with | [_, _], _ => rfl
      d_d62 := F30.binds fun _ _ _ _ _ _ us hl => match us, hl with | [_], _ => rfl
      d_d63 := F31.binds fun _ _ _ _ _ _ us hl => match us, hl with | [_], _ => rfl
      d_d64 := F33.binds fun _ _ _ _ _ _ us hl => match us, hl with | [_], _ => rfl
      d_d65 := F34.binds fun _ _ _ _ _ _ us hl => match us, hl with | [_], _ => rfl
      d_d66 := F35.binds fun _ _ _ _ _ _ us hl => match us, hl with | [_, _, _], _ => rfl
      d_d67 := F37.binds fun _ _ _ _ _ _ us hl => match us, hl with | [_], _ => rfl
      d_d68 := F38.binds fun _ _ _ _ _ _ us hl => match us, hl with | [_, _], _ => rfl
      d_d69 := F39.binds fun _ _ _ _ _ _ us hl => match us, hl with | [_, _], _ => rfl
      d_d70 := F40.binds fun _ _ _ _ _ _ us hl => match us, hl with | [_, _], _ => rfl
      d_d71 := F41.binds fun _ _ _ _ _ _ us hl => match us, hl with | [_, _], _ => rfl
      d_d73 := F42.binds fun _ _ _ _ _ _ us hl => match us, hl with | [_, _], _ => rfl
      d_d74 := F43.binds fun _ _ _ _ _ _ us hl => match us, hl with | [_, _], _ => rfl
      d_d75 := F44.binds fun _ _ _ _ _ _ us hl => match us, hl with | [_, _], _ => rfl
      d_d76 := F50.binds fun _ _ _ _ _ _ us hl => match us, hl with | [_], _ => rfl
      d_d77 := F45.binds fun _ _ _ _ _ _ us hl => match us, hl with | [_], _ => rfl
      d_d78 := F46.binds fun _ _ _ _ _ _ us hl => match us, hl with | [], _ => rfl
      d_d9 := F0.binds fun _ _ _ _ _ _ us hl => match us, hl with | [_, _, _], _ => rfl
      d_i3 := F57.binds fun _ _ _ _ _ _ us hl => match us, hl with | [_, _], _ => rfl
      d_i4 := F58.binds fun _ _ _ _ _ _ us hl => match us, hl with | [_, _], _ => rfl
      e3 := ⟨ega3, egg3, sb3, ehd3, eno3⟩
      e4 := ⟨ega4, egg4, sb4, ehd4, eno4⟩
      eqm5 := ⟨n15, fn15, k15⟩
      ex := rfl
      f_c19m0 := F36
      f_c19m1 := F32
      f_c19m2 := F48
      f_c19m3 := F2
      f_c19m4 := F49
      f_c19m5 := F15
      f_d10 := F1
      f_d11 := F3
      f_d16 := F4
      f_d17 := F5
      f_d18 := F6
      f_d20 := F7
      f_d21 := F8
      f_d24 := F9
      f_d31 := F10
      f_d32 := F11
      f_d33 := F12
      f_d34 := F13
      f_d35 := F14
      f_d36 := F16
      f_d37 := F17
      f_d38 := F18
      f_d43 := F19
      f_d44 := F20
      f_d45 := F21
      f_d46 := F22
      f_d47 := F23
      f_d52 := F24
      f_d53 := F25
      f_d54 := F26
      f_d55 := F27
      f_d58 := F28
      f_d59 := F29
      f_d62 := F30
      f_d63 := F31
      f_d64 := F33
      f_d65 := F34
      f_d66 := F35
      f_d67 := F37
      f_d68 := F38
      f_d69 := F39
      f_d70 := F40
      f_d71 := F41
      f_d73 := F42
      f_d74 := F43
      f_d75 := F44
      f_d76 := F50
      f_d77 := F45
      f_d78 := F46
      f_d79 := F47
      f_d9 := F0
      g_LENGTHS_lines := rfl
      g_LENGTHS_sentences := rfl
      g_Web := rfl
      g_read_recipe := rfl
      g_read_sentence := rfl
      g_recipe_text := rfl
      g_sentence_text := rfl
      g_str := rfl
      g_tuple := rfl
      i3 := n57
      i4 := n58
      isi := fun hX => isi_of (us := gU [c0, c1, c2, c3, c4, c5, c6]) (by decide) (fun kl hk => by
        simp only [iTab, List.mem_cons, List.not_mem_nil, or_false] at hk
        rcases hk with rfl | rfl | rfl | rfl | rfl | rfl | rfl
        all_goals first | exact .ty _ | exact .own _) (fun o ho => by
        simp only [iOwn, List.mem_cons, List.not_mem_nil, or_false] at ho
        rcases ho with rfl
        all_goals (rw [hX]; first | exact IK5)) (fun o ho => by
        simp only [iOwn, List.mem_cons, List.not_mem_nil, or_false] at ho
        rcases ho with rfl
        all_goals (rw [hX]; first | exact me5)) (by rw [hX]; exact isi)
      k := rfl
      k0 := ke0
      k1 := ke1
      k2 := ke2
      ktab_LENGTHS_lines := ktab_of kd60 kw60 (by decide)
      ktab_LENGTHS_sentences := ktab_of kd59 kw59 (by decide)
      len5 := ⟨n2, fn2, k2⟩
      me_c19m1 := ⟨n32, fn32, k32⟩
      mk5 := ⟨mi5, n36, fn36, kc5⟩
      n_DIGITS := PySem.W.mg_of KX G nv8
      n_GREATEST_COLOUR := PySem.W.mg_of KX G nv2
      n_GREATEST_K := PySem.W.mg_of KX G nv3
      n_GREATEST_PASSED := PySem.W.mg_of KX G nv12
      n_InvalidNumber := PySem.W.mg_of KX G nc3
      n_InvalidRecipe := PySem.W.mg_of KX G nc1
      n_InvalidSentence := PySem.W.mg_of KX G nc2
      n_InvalidWeb := PySem.W.mg_of KX G nc0
      n_LEAST_COLOUR := PySem.W.mg_of KX G nv1
      n_LENGTHS_lines := PySem.W.mg_of KX G nk60
      n_LENGTHS_sentences := PySem.W.mg_of KX G nk59
      n_LOTS := PySem.W.mg_of KX G nv14
      n_MADE_OF_NONE := PySem.W.mg_of KX G nv7
      n_MOST_COLOUR := PySem.W.mg_of KX G nv11
      n_MOST_DIGITS := PySem.W.mg_of KX G nv9
      n_MOST_LEAST := PySem.W.mg_of KX G nv5
      n_MOST_LINES_recipes := PySem.W.mg_of KX G nv13
      n_MOST_LINES_sentences := PySem.W.mg_of KX G nv4
      n_MOST_POINTS := PySem.W.mg_of KX G nv0
      n_MOST_WITHIN := PySem.W.mg_of KX G nv6
      n_NO_LOT := PySem.W.mg_of KX G nv10
      n_ParseError := PySem.W.mg_of KX G nc4
      n_Web := PySem.W.mg_of KX G nc5
      n__law_fa_hat := PySem.W.mg_of KX G n42
      n__law_fa_turned := PySem.W.mg_of KX G n44
      n__law_fa_up := PySem.W.mg_of KX G n43
      n__law_met := PySem.W.mg_of KX G n50
      n__law_right := PySem.W.mg_of KX G n45
      n__law_webs_right := PySem.W.mg_of KX G n46
      n_are_between := PySem.W.mg_of KX G n1
      n_are_colours := PySem.W.mg_of KX G n4
      n_are_ties := PySem.W.mg_of KX G n5
      n_bits_of_coloured := PySem.W.mg_of KX G n11
      n_bits_of_least := PySem.W.mg_of KX G n13
      n_bits_of_line := PySem.W.mg_of KX G n14
      n_bits_of_lines := PySem.W.mg_of KX G n16
      n_bits_of_many := PySem.W.mg_of KX G n12
      n_bits_of_two := PySem.W.mg_of KX G n10
      n_check_k := PySem.W.mg_of KX G n9
      n_check_point := PySem.W.mg_of KX G n8
      n_check_sentence := PySem.W.mg_of KX G n18
      n_check_web := PySem.W.mg_of KX G n7
      n_colours_in := PySem.W.mg_of KX G n34
      n_is_ascending := PySem.W.mg_of KX G n3
      n_is_between := PySem.W.mg_of KX G n0
      n_is_like_line := PySem.W.mg_of KX G n24
      n_is_sentence_of := PySem.W.mg_of KX G n17
      n_line_in := PySem.W.mg_of KX G n31
      n_line_text := PySem.W.mg_of KX G n23
      n_lines_in := PySem.W.mg_of KX G n30
      n_lot_in := PySem.W.mg_of KX G n20
      n_lot_text := PySem.W.mg_of KX G n21
      n_member_text := PySem.W.mg_of KX G n22
      n_near_points := PySem.W.mg_of KX G n6
      n_number_in := PySem.W.mg_of KX G n19
      n_places_checked := PySem.W.mg_of KX G n29
      n_places_of := PySem.W.mg_of KX G n27
      n_places_of_first := PySem.W.mg_of KX G n25
      n_places_of_line := PySem.W.mg_of KX G n26
      n_places_open := PySem.W.mg_of KX G n28
      n_read_recipe := PySem.W.mg_of KX G n41
      n_read_sentence := PySem.W.mg_of KX G n39
      n_read_web := PySem.W.mg_of KX G n37
      n_recipe_text := PySem.W.mg_of KX G n40
      n_sentence_text := PySem.W.mg_of KX G n38
      n_ties_in := PySem.W.mg_of KX G n35
      n_web_text := PySem.W.mg_of KX G n33
      na5__near := na5__near
      na5_colours := na5_colours
      na5_degrees := na5_degrees
      na5_ties := na5_ties
      o3 := OC3
      o4 := OC4
      ok_i3 := in_i3 F57 (PySem.W.mg_of KX G nc6) bsp6 ty6 brd6 bfc6 OC3 eno3
      ok_i4 := in_i4 F58 (PySem.W.mg_of KX G nc6) bsp6 ty6 brd6 bfc6 OC4 eno4
      rs0 := fun hX => raises_own (by rw [hX]; exact sb0) (by rw [hX]; exact ty0)
      rs1 := fun hX => raises_own (by rw [hX]; exact sb1) (by rw [hX]; exact ty1)
      rs2 := fun hX => raises_own (by rw [hX]; exact sb2) (by rw [hX]; exact ty2)
      t3 := eti3
      t4 := eti4
      tb := rfl
      tne0_1 := tne0_1
      tne0_2 := tne0_2
      tne1_2 := tne1_2
      tyo := tyOwn_of tyo
      v_DIGITS := kv_of (T := T) rfl _ _ vv8
      v_GREATEST_COLOUR := vv2
      v_GREATEST_K := vv3
      v_GREATEST_PASSED := vv12
      v_LEAST_COLOUR := vv1
      v_LOTS := kv_of (T := T) rfl _ _ vv14
      v_MADE_OF_NONE := kv_of (T := T) rfl _ _ vv7
      v_MOST_COLOUR := vv11
      v_MOST_DIGITS := vv9
      v_MOST_LEAST := vv5
      v_MOST_LINES_recipes := vv13
      v_MOST_LINES_sentences := vv4
      v_MOST_POINTS := vv0
      v_MOST_WITHIN := vv6
      v_NO_LOT := kv_of (T := T) rfl _ _ vv10
      x0 := ex0
      x1 := ex1
      x2 := ex2 }
  refine ⟨(PySem.W.fnOf "law" "law" (defArgs s_d79) (defBody s_d79) (defScope s_d79) .none kV47 dc47 pm47 an47 (.ref a55) ct47), [(a51, a52), (a53, a54), (a55, a56)], spM T 1 (mFn 7 m_d79), ?_⟩
  have two : ∀ (R : Addr × Addr → Prop), R (a51, a52) → R (a53, a54) → R (a55, a56) → ∀ p ∈ [(a51, a52), (a53, a54), (a55, a56)], R p := fun R q0 q1 q2 p hp => by
    simp only [List.mem_cons, List.not_mem_nil, or_false] at hp
    rcases hp with rfl | rfl | rfl
    · exact q0
    · exact q1
    · exact q2
  have t0 := ts _ List.mem_cons_self
  have t1 := ts _ (List.mem_cons_of_mem _ List.mem_cons_self)
  have t2 := ts _ (List.mem_cons_of_mem _ (List.mem_cons_of_mem _ List.mem_cons_self))
  constructor
  · exact two _ t0 t1 t2
  · exact two _ ct_law_right ct_law_webs_right ctlaw
  · exact two _ (PySem.W.codeHd_of_K KX cc_law_right) (PySem.W.codeHd_of_K KX cc_law_webs_right) (PySem.W.codeHd_of_K KX cclaw)
  · exact fun s v => .of_eq rfl
  · intro H a ns hn hb hT hS
    obtain ⟨s1, s2⟩ := say ns hn hb
    refine law_says ?_ hS s1 s2
    intro p hp
    simp only [T, List.mem_cons, List.not_mem_nil, or_false] at hp
    rcases hp with rfl | rfl | rfl
    · exact .nil (hT _ List.mem_cons_self)
    · exact .nil (hT _ (List.mem_cons_of_mem _ List.mem_cons_self))
    · exact .nil (hT _ (List.mem_cons_of_mem _ (List.mem_cons_of_mem _ List.mem_cons_self)))
  · intro base _ _ hTB
    exact okG_d79 (Z base) (hTB _ List.mem_cons_self) (hTB _ (List.mem_cons_of_mem _ List.mem_cons_self)) (hTB _ (List.mem_cons_of_mem _ (List.mem_cons_of_mem _ List.mem_cons_self)))
end
end G

namespace G
open PySem PySem.Spec PyProof.Rows L2 M
noncomputable def isT' : Res PV → Bool
  | .ok (.bl b) _ => b
  | _ => false
noncomputable def rights (lo n : Nat) : Bool := (List.range n).all fun k => isT' (mFn 11 m_d77 [.int ((lo + k : Nat) : Int)] [])
theorem rg0 : rights 0 102 = true := by decide +kernel
theorem rg1 : rights 102 102 = true := by decide +kernel
theorem rg2 : rights 204 102 = true := by decide +kernel
theorem rg3 : rights 306 102 = true := by decide +kernel
theorem rg4 : rights 408 102 = true := by decide +kernel
theorem rg5 : rights 510 102 = true := by decide +kernel
theorem rg6 : rights 612 102 = true := by decide +kernel
theorem rg7 : rights 714 102 = true := by decide +kernel
theorem rg8 : rights 816 102 = true := by decide +kernel
theorem rg9 : rights 918 102 = true := by decide +kernel
theorem right_in {lo n k : Nat} (h : rights lo n = true) (h1 : lo ≤ k) (h2 : k < lo + n) : isT' (mFn 11 m_d77 [.int (k : Int)] []) = true := by
  have q := List.all_eq_true.mp h (k - lo) (List.mem_range.mpr (by omega))
  rwa [show lo + (k - lo) = k by omega] at q
theorem right_ok {k : Nat} (h : k < 1017) : isT' (mFn 11 m_d77 [.int (k : Int)] []) = true := by
  rcases Nat.lt_or_ge k 102 with z | z
  · exact right_in rg0 (by omega) (by omega)
  rcases Nat.lt_or_ge k 204 with z | z
  · exact right_in rg1 (by omega) (by omega)
  rcases Nat.lt_or_ge k 306 with z | z
  · exact right_in rg2 (by omega) (by omega)
  rcases Nat.lt_or_ge k 408 with z | z
  · exact right_in rg3 (by omega) (by omega)
  rcases Nat.lt_or_ge k 510 with z | z
  · exact right_in rg4 (by omega) (by omega)
  rcases Nat.lt_or_ge k 612 with z | z
  · exact right_in rg5 (by omega) (by omega)
  rcases Nat.lt_or_ge k 714 with z | z
  · exact right_in rg6 (by omega) (by omega)
  rcases Nat.lt_or_ge k 816 with z | z
  · exact right_in rg7 (by omega) (by omega)
  rcases Nat.lt_or_ge k 918 with z | z
  · exact right_in rg8 (by omega) (by omega)
  · exact right_in rg9 (by omega) (by omega)
end G
namespace G
open PySem PySem.Spec PyProof.Rows L2 M
noncomputable def Scr (ns : List Int) (S : PV) : Prop := S = .lst (ns.map PV.int) ∨ S = .kst (ns.map PV.int)
theorem scr_len {ns : List Int} {S : PV} (h : Scr ns S) (m : Mem) : cLen [S] m = some (.int ns.length) := by
  rcases h with rfl | rfl <;> simp [cLen, lstOf]
theorem scr_at {ns : List Int} {S : PV} (h : Scr ns S) (m : Mem) {i : Nat} (hi : i < ns.length) : fIx S (.int i) m = some (.int ns[i]) := by
  rcases h with rfl | rfl <;> simp [fIx, lstOf, atI, ixN, hi]
theorem log_le {i : Int} {a : Nat} (h : i.natAbs < 2 ^ a) : i.natAbs.log2 ≤ a := by
  by_cases z : i.natAbs = 0
  · rw [z]; exact Nat.zero_le _
  · exact Nat.le_of_lt ((Nat.log2_lt z).mpr h)
theorem mul_ok {i j : Int} (a b : Nat) (hi : i.natAbs < 2 ^ a) (hj : j.natAbs < 2 ^ b) (hab : a + b ≤ 900000) (m : Mem) : fMulW (.int i) (.int j) m = some (.int (i * j)) := by
  have h1 := log_le hi
  have h2 := log_le hj
  simp [fMulW, fI, bitsLe]
  omega
theorem mod_ok {i j : Int} (hj : 0 < j) (m : Mem) : fModI (.int i) (.int j) m = some (.int (i % j)) := by simp [fModI, fI, hj]
theorem pot_cell {ns : List Int} {S : PV} (h : Scr ns S) (spot : Nat) (hs : spot < 2) (m : Mem) {r1 r2 : Option PV} : ∃ c : Int, (mIf (mTb (mBin (orF fLtI fLtT) (mVar 1) (mCl (orC cLen (cLenI 5 (mFn 1 m_c19m3))) (mCons (mVar 0) mNil)))) (mCl cInt (mCons (mPick (mBin fIx (mVar 0) (mVar 1)) (mGet (mVar 0) (mVar 1))) mNil)) (mBin fAdd (mBin (orF fMulW fRepW) (mC (.int 619)) (mVar 1)) (mC (.int 71)))) [some S, some (.int spot), r1, r2] m = .ok (.int c) m := by
  have q1 := mul_ok (i := 619) (j := spot) 60 60 (by decide) (by omega) (by decide) m
  by_cases z : spot < ns.length
  · refine ⟨ns[spot], ?_⟩
    simp [mIf, mTb, mBin, orF, fLtI, fI, mVar, mCl, orC, scr_len h, mCons, mNil, Res.bind, oP, z, mPick, M.pickR, scr_at h m z, cInt]
  · refine ⟨619 * spot + 71, ?_⟩
    simp [mIf, mTb, mBin, orF, fLtI, fI, mVar, mCl, orC, scr_len h, mCons, mNil, Res.bind, oP, z, mC, q1, fAdd, fAddI]
end G

namespace G
open PySem PySem.Spec PyProof.Rows L2 M
theorem pow_ok {i j : Int} (h : (decide (0 ≤ j) && decide (((i.natAbs.log2 + 1 : Nat) : Int) * j ≤ 2 ^ 20)) = true) (m : Mem) : fPowX (.int i) (.int j) m = some (.int (i ^ j.toNat)) := if_pos h
noncomputable def TEN : Int := (10 : Int) ^ (55 : Int).toNat
noncomputable def BIG : Int := TEN ^ (6 : Int).toNat
noncomputable def LOW : Int := (10 : Int) ^ (16 : Int).toNat
theorem pot_ok {ns : List Int} {S : PV} (h : Scr ns S) (spot : Nat) (hs : spot < 2) (m : Mem) : ∃ A B : Int, mFn 4 m_d73 [S, .int spot] m = .ok (.ref m.length) (m ++ [.lst [.int A, .int B, .int 0]]) ∧ 0 ≤ A ∧ 0 ≤ B ∧ B < 2305843009213693951 := by
  obtain ⟨c, hc⟩ := pot_cell h spot hs m (r1 := none) (r2 := none)
  have hp1 : fPowX (.int 10) (.int 55) m = some (.int TEN) := pow_ok (by decide +kernel) m
  have hp2 : fPowX (.int TEN) (.int 6) m = some (.int BIG) := pow_ok (by decide +kernel) m
  have hp3 : fPowX (.int 10) (.int 16) m = some (.int LOW) := pow_ok (by decide +kernel) m
  have b0 : (0 : Int) < BIG := by decide +kernel
  generalize hg : (if c < 0 then -c else c) % BIG = g
  have hg2 : fModI (.int (if c < 0 then -c else c)) (.int BIG) m = some (.int g) := by rw [mod_ok b0, hg]
  have g0 : 0 ≤ g := by rw [← hg]; exact Int.emod_nonneg _ (by omega)
  have q0 := mod_ok (i := g) (j := 2147483399) (by decide) m
  have n0 := Int.emod_nonneg g (b := 2147483399) (by decide)
  have n1 := Int.emod_lt_of_pos g (b := 2147483399) (by decide)
  have q1 := mul_ok (i := g % 2147483399) (j := 331) 61 61 (by omega) (by decide) (by decide) m
  have q2 := mul_ok (i := 643) (j := spot) 60 60 (by decide) (by omega) (by decide) m
  have q3 := mul_ok (i := 29) (j := if c < 0 then 1 else 0) 60 60 (by decide) (by split <;> decide) (by decide) m
  refine ⟨if g - LOW > 0 then g - LOW else 0, g % 2147483399 * 331 + 643 * (spot : Int) + 29 * (if c < 0 then 1 else 0) + 17, ?_, by split <;> omega, by split <;> omega, by split <;> omega⟩
  unfold m_d73
  simp only [mFn, mSeq, mSet, List.map_cons, List.map_nil, List.length_cons, List.length_nil]
  show (match (match sB (mIf _ _ _ [some S, some (.int spot), none, none] m) _ _ with
    | .nx e1 m1 => _
    | x => x) with
    | .nx _ m' => _
    | .rt v m' => _
    | .exc c ws _ m' => _
    | _ => _) = _
  rw [hc]
  simp [sB, mBin, mCl, mCons, mNil, mVar, mC, Res.bind, oP, cInt, cAbs, hp1, hp2, hp3, hg2, orF, q0, q1, q2, q3, fAdd, fAddI, fI, fLtI, mRet, mN, mLstF, cMax2, fSubI, szOk]
end G

namespace G
open PySem PySem.Spec PyProof.Rows L2 M
theorem at3 {A B C : PV} : atI [A, B, C] 0 = some A ∧ atI [A, B, C] 1 = some B ∧ atI [A, B, C] 2 = some C := ⟨rfl, rfl, rfl⟩
theorem ix3 : ixN 3 0 = some 0 ∧ ixN 3 2 = some 2 := ⟨rfl, rfl⟩
theorem div_ok {i j : Int} (hj : 0 < j) (h : j.natAbs < 2 ^ 8000) (m : Mem) : fDivW (.int i) (.int j) m = some (.int (i / j)) := by
  have q := log_le h
  simp [fDivW, fI, hj]
  exact q
theorem big1000 : (1000 : Int).natAbs < 2 ^ 8000 := Nat.lt_of_lt_of_le (by decide : (1000 : Int).natAbs < 2 ^ 20) (Nat.pow_le_pow_right (by decide) (by decide))
theorem big65551 : (65551 : Int).natAbs < 2 ^ 8000 := Nat.lt_of_lt_of_le (by decide : (65551 : Int).natAbs < 2 ^ 20) (Nat.pow_le_pow_right (by decide) (by decide))
theorem toss_ok {m : Mem} {i : Nat} {A B : Int} (hi : i < m.length) (hm : m[i]? = some (.lst [.int A, .int B, .int 0])) (hA : 0 ≤ A) (hB : 0 ≤ B) (hB2 : B < 2305843009213693951) :
    ∃ (k : Nat) (o : MO), mFn 5 m_d74 [.ref i, .int 1000] m = .ok (.int k) (m.set i o) ∧ k < 1000 := by
  have l0 : ∀ x y : PV, lstOf (.ref i) (m.set i (.lst [x, .int B, y])) = some [x, .int B, y] := fun x y => by simp [lstOf, List.getElem?_set, hi]
  have lm : lstOf (.ref i) m = some [.int A, .int B, .int 0] := by simp [lstOf, hm]
  obtain ⟨a0, a1, a2⟩ := @at3 (.int A) (.int B) (.int 0)
  obtain ⟨b0, b1, b2⟩ := @at3 (.int A) (.int B) (.int 1)
  obtain ⟨x0, x2⟩ := ix3
  by_cases z : 0 < A
  · refine ⟨(A % 1000).toNat, .lst [.int (A / 1000), .int B, .int 0], ?_, by omega⟩
    have q1 := mod_ok (i := A) (j := 1000) (by decide) m
    have q2 := div_ok (i := A) (j := 1000) (by decide) big1000 m
    have e : ((A % 1000).toNat : Int) = A % 1000 := Int.toNat_of_nonneg (by omega)
    unfold m_d74
    simp [mFn, mSeq, mIfS, mTb, mBin, mPick, M.pickR, fIx, mVar, mC, Res.bind, sB, oP, fGtI, fI, lm, a0, z, mSet, mCl, cInt, mCons, mNil, q1, q2, mPickS, mAsg, gSubL, wrL, Res.calm, hm, x0, mRet, e]
  · have lm2 : lstOf (.ref i) (m.set i (.lst [.int A, .int B, .int 1])) = some [.int A, .int B, .int 1] := l0 _ _
    have q1 := mul_ok (i := 15485867) (j := 1) 60 60 (by decide) (by decide) (by decide)
    have q2 := mul_ok (i := 373) (j := 1) 60 60 (by decide) (by decide) (by decide)
    generalize ho : (B + 15485867 * 1) % 2305843009213693951 = one
    have o0 : 0 ≤ one := by rw [← ho]; exact Int.emod_nonneg _ (by decide)
    have o1 : one < 2305843009213693951 := by rw [← ho]; exact Int.emod_lt_of_pos _ (by decide)
    have q3 : ∀ m, fModI (.int (B + 15485867 * 1)) (.int 2305843009213693951) m = some (.int one) := fun m => by rw [mod_ok (by decide), ho]
    have q4 := mul_ok (i := one) (j := one) 61 61 (by omega) (by omega) (by decide)
    generalize ht : (one * one + 373 * 1) % 2305843009213693921 = tw
    have t0 : 0 ≤ tw := by rw [← ht]; exact Int.emod_nonneg _ (by decide)
    have t1 : tw < 2305843009213693921 := by rw [← ht]; exact Int.emod_lt_of_pos _ (by decide)
    have q5 : ∀ m, fModI (.int (one * one + 373 * 1)) (.int 2305843009213693921) m = some (.int tw) := fun m => by rw [mod_ok (by decide), ht]
    have q6 := mul_ok (i := tw) (j := 6700417) 61 61 (by omega) (by decide) (by decide)
    generalize hw : tw * 6700417 + one = two
    have q7 := fun m => div_ok (i := two) (j := 65551) (by decide) big65551 m
    have q8 := fun m => mod_ok (i := two / 65551) (j := 1000) (by decide) m
    have k0 := Int.emod_nonneg (two / 65551) (b := 1000) (by decide)
    have k1 := Int.emod_lt_of_pos (two / 65551) (b := 1000) (by decide)
    refine ⟨((two / 65551) % 1000).toNat, .lst [.int A, .int B, .int 1], ?_, by omega⟩
    have e : (((two / 65551) % 1000).toNat : Int) = (two / 65551) % 1000 := Int.toNat_of_nonneg k0
    unfold m_d74
    simp only [Int.mul_one] at q1 q2 q3 q5
    simp [mFn, mSeq, mIfS, mTb, mBin, mPick, M.pickR, fIx, mVar, mC, Res.bind, sB, oP, fGtI, fI, lm, lm2, a0, a1, a2, b0, b1, b2, z, mSet, mCl, cInt, mCons, mNil, mPass, mPickS, mAsg, gSubL, wrL, Res.calm, hm, x0, x2, mRet, e, orF, fAdd, fAddI, q1, q2, q3, q4, q5, q6, hw, q7, q8]
end G

namespace G
open PySem PySem.Spec PyProof.Rows L2 M
noncomputable abbrev turnB : MS := (mIfS (mNotT (mTb (mCallP 1 (mFn 11 m_d77) (mCons (mBin fAdd (mVar 2) (mVar 3)) mNil))))
  (mRet (mC (.bl false)))
  mPass)
noncomputable abbrev spotB : MS := (mSeq (mSet 2 (mTr0 (mCall 2 (mFn 5 m_d74) (mCons (mCall 2 (mFn 4 m_d73) (mCons (mVar 0) (mCons (mVar 1) mNil))) (mCons (mC (.int 1000)) mNil)))))
  (mFor (mIR1 (mCons (mC (.int 18)) mNil)) (gN 3) turnB))
theorem turn_one (R : ∀ k : Nat, k < 1017 → isT' (mFn 11 m_d77 [.int (k : Int)] []) = true) {S sp : Option PV} {k t : Nat} {r4 r5 r6 : Option PV} (h : k + t < 1017) (m : Mem) :
    turnB [S, sp, some (.int (k : Int)), some (.int (t : Int)), r4, r5, r6] m = .nx [S, sp, some (.int (k : Int)), some (.int (t : Int)), r4, r5, r6] m := by
  have q := R _ h
  have q2 : runP 1 (mFn 11 m_d77) [.int ((k : Int) + (t : Int))] m = .ok (.bl true) m := by
    rw [← Int.natCast_add]
    unfold runP
    rw [if_pos (show ([PV.int ((k + t : Nat) : Int)].length == 1 && noRefs [PV.int ((k + t : Nat) : Int)]) = true by simp [noRefs, noRef])]
    cases e : mFn 11 m_d77 [.int ((k + t : Nat) : Int)] [] with
    | ok v m' =>
      rw [e] at q
      cases v <;> simp [isT'] at q
      subst q
      rfl
    | exc c ws m' => rw [e] at q; simp [isT'] at q
    | bad => rw [e] at q; simp [isT'] at q
  simp [turnB, mIfS, mNotT, mTb, mCallP, mCons, mBin, mVar, mNil, Res.bind, oP, fAdd, orF, fAddI, fI, q2, sB, mPass]
theorem turns (R : ∀ k : Nat, k < 1017 → isT' (mFn 11 m_d77 [.int (k : Int)] []) = true) {S sp : Option PV} {k : Nat} {r4 r5 r6 : Option PV} (h : k < 1000) (m : Mem) :
    ∀ (d n i : Nat) (r3 : Option PV), i + d = 18 → d < n → ∃ z, forL (gN 3) turnB (rngI 0 18) n i [S, sp, some (.int (k : Int)), r3, r4, r5, r6] m = .nx [S, sp, some (.int (k : Int)), z, r4, r5, r6] m
  | d, 0, i, r3, e, hn => absurd hn (Nat.not_lt_zero _)
  | 0, n + 1, i, r3, e, hn => ⟨r3, by
    unfold forL
    rw [show rngI 0 18 m i = some none by unfold rngI; rw [if_neg (by omega)]]⟩
  | d + 1, n + 1, i, r3, e, hn => by
    obtain ⟨z, hz⟩ := turns R h m (S := S) (sp := sp) (r4 := r4) (r5 := r5) (r6 := r6) d n (i + 1) (some (.int (i : Int))) (by omega) (by omega)
    refine ⟨z, ?_⟩
    unfold forL
    rw [show rngI 0 18 m i = some (some (.int (i : Int))) by unfold rngI; rw [if_pos (by omega)]; simp]
    show (match turnB [S, sp, some (.int (k : Int)), some (.int (i : Int)), r4, r5, r6] m with
      | .nx e2 m2 => forL (gN 3) turnB (rngI 0 18) n (i + 1) e2 m2
      | .ct e2 m2 => forL (gN 3) turnB (rngI 0 18) n (i + 1) e2 m2
      | .bk e2 m2 => .nx e2 m2
      | x => x) = _
    rw [turn_one R (by omega) m]
    exact hz
theorem spot_one (R : ∀ k : Nat, k < 1017 → isT' (mFn 11 m_d77 [.int (k : Int)] []) = true) {ns : List Int} {S : PV} (h : Scr ns S) (sp : Nat) (hs : sp < 2) {r2 r3 r4 r5 r6 : Option PV} :
    ∃ k z, spotB [some S, some (.int (sp : Int)), r2, r3, r4, r5, r6] [] = .nx [some S, some (.int (sp : Int)), k, z, r4, r5, r6] [] := by
  obtain ⟨A, B, p, a0, b0, b1⟩ := pot_ok h sp hs []
  obtain ⟨k, o, q, hk⟩ := toss_ok (m := [] ++ [.lst [.int A, .int B, .int 0]]) (i := 0) (by simp) (by simp) a0 b0 b1
  obtain ⟨z, hz⟩ := turns R hk [] (S := some S) (sp := some (.int (sp : Int))) (r4 := r4) (r5 := r5) (r6 := r6) 18 FUEL 0 r3 rfl (by decide)
  refine ⟨some (.int (k : Int)), z, ?_⟩
  rw [List.nil_append] at p q
  rw [show ([] : Mem).length = 0 from rfl] at p
  simp [spotB, mSeq, mSet, mTr0, noRef, mCall, mCons, mVar, mNil, mC, Res.bind, p, q, sB, mFor, mIR1, big62, hz]
end G

namespace G
open PySem PySem.Spec PyProof.Rows L2 M
noncomputable def lawF : MS := (mFor (mIR1 (mCons (mCl cMax2 (mCons (mC (.int 1)) (mCons (mCl cMin2 (mCons (mC (.int 2)) (mCons (mCl (orC cLen (cLenI 5 (mFn 1 m_c19m3))) (mCons (mVar 0) mNil)) mNil))) mNil))) mNil)) (gN 1)
  (mSeq (mSet 2 (mTr0 (mCall 2 (mFn 5 m_d74) (mCons (mCall 2 (mFn 4 m_d73) (mCons (mVar 0) (mCons (mVar 1) mNil))) (mCons (mC (.int 1000)) mNil)))))
  (mFor (mIR1 (mCons (mC (.int 18)) mNil)) (gN 3)
  (mIfS (mNotT (mTb (mCallP 1 (mFn 11 m_d77) (mCons (mBin fAdd (mVar 2) (mVar 3)) mNil))))
  (mRet (mC (.bl false)))
  mPass))))
noncomputable def lawR : MS := (mSeq (mSet 4 (mN (mLstF (mCons (mTup (mCons (mC (.str "")) (mCons (mC (.int 0)) mNil))) (mCons (mTup (mCons (mC (.str "tie 0 1\n")) (mCons (mC (.int 1)) mNil))) (mCons (mTup (mCons (mC (.str "all -\nnot 1\n")) (mCons (mC (.int 1)) mNil))) (mCons (mTup (mCons (mC (.str "all -\nnot 0")) (mCons (mC (.int 1)) mNil))) (mCons (mTup (mCons (mC (.str "all 0\n")) (mCons (mC (.int 0)) mNil))) mNil))))))))
  (mSeq (mExpr (mMt qAppend isLst (mVar 4) (mCons (mTup (mCons (mC (.str "all -\nleast 0 0 0\n")) (mCons (mC (.int 1)) mNil))) mNil)))
  (mSeq (mSet 4 (mN (mBinF fCatL (mVar 4) (mL (mLstF (mCons (mTup (mCons (mC (.str "all\n")) (mCons (mC (.int 0)) mNil))) (mCons (mTup (mCons (mC (.str "all -\nleast 1 2 0\n")) (mCons (mC (.int 1)) mNil))) (mCons (mTup (mCons (mC (.str "one\n")) (mCons (mC (.int 0)) mNil))) (mCons (mTup (mCons (mC (.str "all -,0\n")) (mCons (mC (.int 0)) mNil))) (mCons (mTup (mCons (mC (.str "all -\nall 0,00\n")) (mCons (mC (.int 1)) mNil))) mNil))))))))))
  (mSeq (mSet 4 (mN (mBinF fCatL (mVar 4) (mL (mLstF (mCons (mTup (mCons (mBin fAdd (mBin fRepS (mC (.str "all -\n")) (mC (.int 2000))) (mC (.str "all -\n"))) (mCons (mC (.int 2000)) mNil))) (mCons (mTup (mCons (mC (.str "all -\nnot -0\n")) (mCons (mC (.int 1)) mNil))) (mCons (mTup (mCons (mC (.str "all -\nnot 0\ntie 0 1\nsome 2\n")) (mCons (mC (.int 4)) mNil))) mNil))))))))
  (mSeq (mIfS (mTb (mBin fNeD (mL (mLc (mPick (mIT (mVar 4)) (mIL (mVar 4))) (gTupM 2 (gsCons (gN 5) (gsCons (gN 6) gsNil))) (mTb (mBin fNeD (mMet 2 5 metL metF (mCallP 2 (mFn 8 m_d69) (mCons (mC (.int 1)) (mCons (mVar 5) mNil)))) (mBin fAdd (mC (.str "line ")) (mCl fReprD (mCons (mVar 6) mNil))))) (mVar 5) [5, 6])) (mL (mLstF mNil))))
  (mRet (mC (.bl false)))
  mPass)
  (mSeq (mSet 4 (mN (mLstF (mCons (mTup (mCons (mC (.str "")) (mCons (mC (.int 0)) mNil))) (mCons (mTup (mCons (mC (.str "one\nsum 0 0\n")) (mCons (mC (.int 1)) mNil))) (mCons (mTup (mCons (mC (.str "point 2\n")) (mCons (mC (.int 0)) mNil))) (mCons (mTup (mCons (mC (.str "one\nglue 0 1\n")) (mCons (mC (.int 1)) mNil))) (mCons (mTup (mCons (mC (.str "one 0\n")) (mCons (mC (.int 0)) mNil))) mNil))))))))
  (mSeq (mExpr (mMt qAppend isLst (mVar 4) (mCons (mTup (mCons (mC (.str "colour 0 -1\n")) (mCons (mC (.int 0)) mNil))) mNil)))
  (mSeq (mSet 4 (mN (mBinF fCatL (mVar 4) (mL (mLstF (mCons (mTup (mCons (mC (.str "one\none")) (mCons (mC (.int 1)) mNil))) (mCons (mTup (mCons (mC (.str "point 0\nsum 1 0\n")) (mCons (mC (.int 1)) mNil))) (mCons (mTup (mCons (mC (.str "one \n")) (mCons (mC (.int 0)) mNil))) (mCons (mTup (mCons (mC (.str " one\n")) (mCons (mC (.int 0)) mNil))) (mCons (mTup (mCons (mBin fRepS (mC (.str "one\n")) (mC (.int 2001))) (mCons (mC (.int 2000)) mNil))) mNil))))))))))
  (mSeq (mIfS (mTb (mBin fNeD (mL (mLc (mPick (mIT (mVar 4)) (mIL (mVar 4))) (gTupM 2 (gsCons (gN 5) (gsCons (gN 6) gsNil))) (mTb (mBin fNeD (mMet 2 5 metL metF (mCallP 2 (mFn 8 m_d71) (mCons (mC (.int 1)) (mCons (mVar 5) mNil)))) (mBin fAdd (mC (.str "line ")) (mCl fReprD (mCons (mVar 6) mNil))))) (mVar 5) [5, 6])) (mL (mLstF mNil))))
  (mRet (mC (.bl false)))
  mPass)
  (mRet (mAndV (mCallP 0 (mFn 3 m_d78) mNil) (mBin fEqD (mMet 2 5 metL metF (mCallP 2 (mFn 8 m_d71) (mCons (mC (.int 1)) (mCons (mBin fRepS (mC (.str "one\n")) (mC (.int 2000))) mNil)))) (mC (.str "fine"))))))))))))))
theorem law_eq : m_d79 = mSeq lawF lawR := rfl
noncomputable def isR : SRes → Bool
  | .rt (.bl b) _ => b
  | _ => false
end G
namespace HV
open PySem PySem.Spec PyProof.Rows L2 M G
noncomputable def mCallK (K : List PV → Mem → Res PV) (mr : MA) : ME := fun e m => (mr e m).bind K
theorem seq_nx {a b : MS} {e e1 : M.Env} {m m1 : Mem} (h : a e m = .nx e1 m1) : mSeq a b e m = b e1 m1 := by
  show (match a e m with
    | .nx e1 m1 => b e1 m1
    | x => x) = _
  rw [h]
theorem seq_x {a b : MS} {e : M.Env} {m : Mem} {x : SRes} (h : a e m = x) (hx : ∀ e1 m1, x ≠ .nx e1 m1) : mSeq a b e m = x := by
  show (match a e m with
    | .nx e1 m1 => b e1 m1
    | x => x) = _
  rw [h]
  cases x <;> first | rfl | exact absurd rfl (hx _ _)
theorem sB_ok {t : Type} {a : t} {m : Mem} {e : M.Env} {f : t → Mem → SRes} : sB (.ok a m) e f = f a m := rfl
theorem mFn_rt {n : Nat} {body : MS} {args : List PV} {m m1 : Mem} {v : PV} {env : M.Env} (h0 : args.map some ++ List.replicate (n - args.length) none = env) (h : body env m = .rt v m1) : mFn n body args m = .ok v m1 := by
  unfold mFn
  rw [h0, h]
theorem mFn_exc {n : Nat} {body : MS} {args ws : List PV} {c : Nat} {m m1 : Mem} {env e1 : M.Env} (h0 : args.map some ++ List.replicate (n - args.length) none = env) (h : body env m = .exc c ws e1 m1) : mFn n body args m = .exc c ws m1 := by
  unfold mFn
  rw [h0, h]
theorem runP_v {n : Nat} {mf : MF} {xs : List PV} {v y : PV} {m1 : Mem} (h : mf xs [] = .ok v m1) (hc : (xs.length == n && noRefs xs) = true) (hr : res 6 m1 v = some y) (m : Mem) : runP n mf xs m = .ok y m := by
  unfold runP
  rw [if_pos hc, h]
  dsimp only
  rw [hr]
theorem runP_x {n : Nat} {mf : MF} {xs ws : List PV} {c : Nat} {m1 : Mem} (h : mf xs [] = .exc c ws m1) (hc : (xs.length == n && noRefs xs) = true) (hw : noRefs ws = true) (m : Mem) : runP n mf xs m = .exc c ws m := by
  unfold runP
  rw [if_pos hc, h]
  dsimp only
  rw [if_pos hw]
theorem q_app {m : Mem} {j : Nat} {ys : List PV} {y : PV} (hm : m[j]? = some (.lst ys)) (hs : szOk ys.length = true) : qAppend (.ref j) [y] m = .ok .non (m.set j (.lst (ys ++ [y]))) := by
  show (match m[j]? with
    | some (.lst xs) => if szOk xs.length then (.ok .non (m.set j (.lst (xs ++ [y]))) : Res PV) else .bad
    | _ => .bad) = _
  rw [hm]
  dsimp only
  rw [if_pos hs]
theorem rep_succ (x : PV) (i : Nat) : List.replicate i x ++ [x] = List.replicate (i + 1) x := by rw [List.replicate_succ']
theorem ge_no {i : Nat} (h : i < 2000) (m : Mem) : fGeI (.int (i : Nat)) (.int 2000) m = some (.bl false) := by
  show some (PV.bl (decide _)) = _
  rw [decide_eq_false (by omega)]
theorem forL_stop {mg : M.MG} {body : MS} {it : MI} {F i : Nat} {e : M.Env} {m : Mem} (h : it m i = some none) : forL mg body it (F + 1) i e m = .nx e m := by
  simp only [forL, h]
theorem forL_exc {mg : M.MG} {body : MS} {it : MI} {F i c : Nat} {ws : List PV} {x : PV} {e e1 e2 : M.Env} {m m1 m2 : Mem} (h : it m i = some (some x)) (hg : mg x e m = .ok e1 m1) (hb : body e1 m1 = .exc c ws e2 m2) : forL mg body it (F + 1) i e m = .exc c ws e2 m2 := by
  simp only [forL, h, hg, hb]
section
noncomputable def aA : MS := (mExpr (mCallP 1 (mFn 1 m_d24) (mCons (mVar 0) mNil)))
noncomputable def aB1 : MS := (mSet 2 (mN (mLstF mNil)))
noncomputable def aB2 : MS := (mSet 3 (mN (mLstF mNil)))
noncomputable def aIT : M.Env → Mem → Res MI := (mPick (mIE (mCons (mCallP 1 (mFn 3 m_d62) (mCons (mVar 1) mNil)) mNil)) (mIEt (mCons (mCallP 1 (mFn 3 m_d62) (mCons (mVar 1) mNil)) mNil)))
noncomputable def aMG : M.MG := (gTupM 2 (gsCons (gN 4) (gsCons (gN 5) gsNil)))
noncomputable def aD : MS := (mSeq (mIfS (mOrT (mTb (mBin fEqD (mVar 2) (mL (mLstF mNil)))) (mTb (mBin fNeD (mPick (mPick (mBin fIx (mVar 3) (mUn fNeg (mC (.int 1)))) (mGet (mVar 3) (mUn fNeg (mC (.int 1))))) (mBin fIxS (mVar 3) (mUn fNeg (mC (.int 1))))) (mC (.int 0)))))
  (mRaise1 4 (mCl (orC (orC cLen (cLenI 5 (mFn 1 m_c19m3))) cLenS) (mCons (mVar 2) mNil)))
  mPass) (mRet (mCl cTuple (mCons (mVar 2) mNil))))
noncomputable def as1 : MS := (mSet 6 (mCallP 1 (mFn 4 m_d63) (mCons (mVar 5) mNil)))
noncomputable def as2 (G0 : PV → PV → Mem → Option PV) : MS := (mSet 7 (mIf (mOrT (mTb (mBin G0 (mVar 4) (mC (.int (2000))))) (mTb (mBin (fIsN false) (mVar 6) (mC .non)))) (mC .non) (mCall 3 (mFn 4 m_d35) (mCons (mVar 0) (mCons (mVar 6) (mCons (mVar 3) mNil))))))
noncomputable def as3 : MS := (mIfS (mTb (mBin (fIsN false) (mVar 7) (mC .non)))
  (mRaise1 4 (mVar 4))
  mPass)
noncomputable def as4 : MS := (mExpr (mMt qAppend isLst (mVar 2) (mCons (mVar 6) mNil)))
noncomputable def as5 : MS := (mExpr (mMt qAppend isLst (mVar 3) (mCons (mVar 7) mNil)))
noncomputable def aLB : MS := mSeq as1 (mSeq (as2 fGeI) (mSeq as3 (mSeq as4 as5)))
noncomputable def aC : MS := mFor aIT aMG aLB
theorem aeq : m_d69 = mSeq aA (mSeq aB1 (mSeq aB2 (mSeq aC aD))) := rfl
noncomputable abbrev aLn : PV := .str "all -"
noncomputable abbrev aFl : PV := .tup [.str "all", .tup []]
noncomputable abbrev aPl : PV := .int 0
noncomputable abbrev aE (tx : PV) (x4 x5 x6 x7 : Option PV) : M.Env := [some (.int 1), some tx, some (.ref 0), some (.ref 1), x4, x5, x6, x7]
noncomputable abbrev aM (ys zs : List PV) : Mem := [.lst ys, .lst zs]
theorem astep (tx : PV) (x6 x7 : Option PV) (ys zs : List PV) (i : Nat) (hi : i < 2000) (hs : szOk ys.length = true) (ht : szOk zs.length = true) :
    aLB (aE tx (some (.int (i : Nat))) (some aLn) x6 x7) (aM ys zs) = .nx (aE tx (some (.int (i : Nat))) (some aLn) (some aFl) (some aPl)) (aM (ys ++ [aFl]) (zs ++ [aPl])) := by
  have h1 : as1 (aE tx (some (.int (i : Nat))) (some aLn) x6 x7) (aM ys zs) = .nx (aE tx (some (.int (i : Nat))) (some aLn) (some aFl) x7) (aM ys zs) := by kernel_rfl
  have ab : ∀ G0, as2 G0 (aE tx (some (.int (i : Nat))) (some aLn) (some aFl) x7) (aM ys zs) = as2 (fun _ _ m => G0 (.int (i : Nat)) (.int 2000) m) (aE tx (some (.int (i : Nat))) (some aLn) (some aFl) x7) (aM ys zs) := fun G0 => by kernel_rfl
  have h2 : as2 fGeI (aE tx (some (.int (i : Nat))) (some aLn) (some aFl) x7) (aM ys zs) = .nx (aE tx (some (.int (i : Nat))) (some aLn) (some aFl) (some aPl)) (aM ys zs) := by
    rw [ab, show (fun (_ _ : PV) (m : Mem) => fGeI (.int (i : Nat)) (.int 2000) m) = (fun _ _ _ => some (.bl false)) from funext fun _ => funext fun _ => funext fun m => ge_no hi m]
    kernel_rfl
  have h3 : as3 (aE tx (some (.int (i : Nat))) (some aLn) (some aFl) (some aPl)) (aM ys zs) = .nx (aE tx (some (.int (i : Nat))) (some aLn) (some aFl) (some aPl)) (aM ys zs) := by kernel_rfl
  have h4 : as4 (aE tx (some (.int (i : Nat))) (some aLn) (some aFl) (some aPl)) (aM ys zs) = .nx (aE tx (some (.int (i : Nat))) (some aLn) (some aFl) (some aPl)) (aM (ys ++ [aFl]) zs) := by
    have q : as4 (aE tx (some (.int (i : Nat))) (some aLn) (some aFl) (some aPl)) (aM ys zs) = sB ((qAppend (.ref 0) [aFl] (aM ys zs)).calm) (aE tx (some (.int (i : Nat))) (some aLn) (some aFl) (some aPl)) (fun _ m1 => .nx (aE tx (some (.int (i : Nat))) (some aLn) (some aFl) (some aPl)) m1) := by kernel_rfl
    rw [q, q_app rfl hs]
    rfl
  have h5 : as5 (aE tx (some (.int (i : Nat))) (some aLn) (some aFl) (some aPl)) (aM (ys ++ [aFl]) zs) = .nx (aE tx (some (.int (i : Nat))) (some aLn) (some aFl) (some aPl)) (aM (ys ++ [aFl]) (zs ++ [aPl])) := by
    have q : as5 (aE tx (some (.int (i : Nat))) (some aLn) (some aFl) (some aPl)) (aM (ys ++ [aFl]) zs) = sB ((qAppend (.ref 1) [aPl] (aM (ys ++ [aFl]) zs)).calm) (aE tx (some (.int (i : Nat))) (some aLn) (some aFl) (some aPl)) (fun _ m1 => .nx (aE tx (some (.int (i : Nat))) (some aLn) (some aFl) (some aPl)) m1) := by kernel_rfl
    rw [q, q_app rfl ht]
    rfl
  unfold aLB
  rw [seq_nx h1, seq_nx h2, seq_nx h3, seq_nx h4]
  exact h5
theorem ago (tx : PV) (n j : Nat) (hj : j ≤ 2000) (hn : j ≤ n) (F : Nat) : ∀ (d i : Nat) (x4 x5 x6 x7 : Option PV), i + d = j →
    ∃ y4 y5 y6 y7, forL aMG aLB (enI (List.replicate n aLn)) (F + d) i (aE tx x4 x5 x6 x7) (aM (List.replicate i aFl) (List.replicate i aPl)) = forL aMG aLB (enI (List.replicate n aLn)) F j (aE tx y4 y5 y6 y7) (aM (List.replicate j aFl) (List.replicate j aPl)) := by
  intro d
  induction d with
  | zero =>
    intro i x4 x5 x6 x7 h
    obtain rfl : i = j := by omega
    exact ⟨x4, x5, x6, x7, rfl⟩
  | succ d ih =>
    intro i x4 x5 x6 x7 h
    obtain ⟨y4, y5, y6, y7, q⟩ := ih (i + 1) (some (.int (i : Nat))) (some aLn) (some aFl) (some aPl) (by omega)
    refine ⟨y4, y5, y6, y7, ?_⟩
    have hit : enI (List.replicate n aLn) (aM (List.replicate i aFl) (List.replicate i aPl)) i = some (some (.tup [.int (i : Nat), aLn])) := by
      unfold enI
      rw [show (List.replicate n aLn)[i]? = some aLn from by rw [List.getElem?_replicate]; exact if_pos (by omega)]
    have hsz : szOk (List.replicate i aFl).length = true := by
      rw [List.length_replicate]
      exact Nat.ble_eq_true_of_le (by omega)
    have hsz2 : szOk (List.replicate i aPl).length = true := by
      rw [List.length_replicate]
      exact Nat.ble_eq_true_of_le (by omega)
    have hst := astep tx x6 x7 (List.replicate i aFl) (List.replicate i aPl) i (by omega) hsz hsz2
    rw [rep_succ, rep_succ] at hst
    rw [← q]
    show (match enI (List.replicate n aLn) (aM (List.replicate i aFl) (List.replicate i aPl)) i with
      | none => _
      | some none => _
      | some (some x) => _) = _
    rw [hit]
    show (match aLB (aE tx (some (.int (i : Nat))) (some aLn) x6 x7) (aM (List.replicate i aFl) (List.replicate i aPl)) with
      | .nx e2 m2 => forL aMG aLB (enI (List.replicate n aLn)) (F + d) (i + 1) e2 m2
      | .ct e2 m2 => forL aMG aLB (enI (List.replicate n aLn)) (F + d) (i + 1) e2 m2
      | .bk e2 m2 => .nx e2 m2
      | x => x) = _
    rw [hst]
end
noncomputable def aL (n : Nat) : List Nat := (List.replicate n (Str.cps (Str.ofString "all -\n")).toList).flatten
noncomputable abbrev aT (n : Nat) : PV := .str (strS (aL n))
theorem aA2001 : aA [some (.int 1), some (aT 2001), none, none, none, none, none, none] [] = .nx [some (.int 1), some (aT 2001), none, none, none, none, none, none] [] := by kernel_rfl
theorem aB12001 : aB1 [some (.int 1), some (aT 2001), none, none, none, none, none, none] [] = .nx [some (.int 1), some (aT 2001), some (.ref 0), none, none, none, none, none] [.lst []] := by kernel_rfl
theorem aB22001 : aB2 [some (.int 1), some (aT 2001), some (.ref 0), none, none, none, none, none] [.lst []] = .nx (aE (aT 2001) none none none none) (aM [] []) := by kernel_rfl
theorem aI2001 : aIT (aE (aT 2001) none none none none) (aM [] []) = .ok (enI (List.replicate 2001 aLn)) (aM [] []) := by kernel_rfl
theorem aC2001 : ∃ y4 y5 y6 y7, aC (aE (aT 2001) none none none none) (aM [] []) = forL aMG aLB (enI (List.replicate 2001 aLn)) 998000 2000 (aE (aT 2001) y4 y5 y6 y7) (aM (List.replicate 2000 aFl) (List.replicate 2000 aPl)) := by
  obtain ⟨y4, y5, y6, y7, h⟩ := ago (aT 2001) 2001 2000 (by decide) (by decide) 998000 2000 0 none none none none (by decide)
  refine ⟨y4, y5, y6, y7, ?_⟩
  rw [← h]
  unfold aC mFor
  rw [aI2001, sB_ok]
  rfl
theorem aend (tx : PV) (x6 x7 : Option PV) (ys zs : List PV) : aLB (aE tx (some (.int 2000)) (some aLn) x6 x7) (aM ys zs) = .exc 4 [.int 2000] (aE tx (some (.int 2000)) (some aLn) (some aFl) (some .non)) (aM ys zs) := by kernel_rfl
theorem aover : ∃ m1, mFn 8 m_d69 [.int 1, aT 2001] [] = .exc 4 [.int 2000] m1 := by
  obtain ⟨y4, y5, y6, y7, h⟩ := aC2001
  have hit : enI (List.replicate 2001 aLn) (aM (List.replicate 2000 aFl) (List.replicate 2000 aPl)) 2000 = some (some (.tup [.int 2000, aLn])) := by
    unfold enI
    rw [show (List.replicate 2001 aLn)[2000]? = some aLn from by rw [List.getElem?_replicate]; exact if_pos (by decide)]
    rfl
  have h2 : forL aMG aLB (enI (List.replicate 2001 aLn)) 998000 2000 (aE (aT 2001) y4 y5 y6 y7) (aM (List.replicate 2000 aFl) (List.replicate 2000 aPl)) = .exc 4 [.int 2000] (aE (aT 2001) (some (.int 2000)) (some aLn) (some aFl) (some .non)) (aM (List.replicate 2000 aFl) (List.replicate 2000 aPl)) := by
    exact forL_exc (F := 997999) hit (e1 := aE (aT 2001) (some (.int 2000)) (some aLn) y6 y7) rfl (aend _ _ _ _ _)
  have hh : m_d69 [some (.int 1), some (aT 2001), none, none, none, none, none, none] [] = .exc 4 [.int 2000] (aE (aT 2001) (some (.int 2000)) (some aLn) (some aFl) (some .non)) (aM (List.replicate 2000 aFl) (List.replicate 2000 aPl)) := by
    rw [aeq, seq_nx aA2001, seq_nx aB12001, seq_nx aB22001, seq_x (h.trans h2) (fun _ _ z => by cases z)]
  exact ⟨_, mFn_exc rfl hh⟩
theorem arun (m : Mem) : runP 2 (mFn 8 m_d69) [.int 1, aT 2001] m = .exc 4 [.int 2000] m := by
  obtain ⟨m1, h⟩ := aover
  exact runP_x h rfl rfl m
section
noncomputable def bA : MS := (mExpr (mCallP 1 (mFn 1 m_d24) (mCons (mVar 0) mNil)))
noncomputable def bB1 : MS := (mSet 2 (mN (mLstF mNil)))
noncomputable def bB2 : MS := (mSet 3 (mN (mLstF mNil)))
noncomputable def bIT : M.Env → Mem → Res MI := (mPick (mIE (mCons (mCallP 1 (mFn 3 m_d62) (mCons (mVar 1) mNil)) mNil)) (mIEt (mCons (mCallP 1 (mFn 3 m_d62) (mCons (mVar 1) mNil)) mNil)))
noncomputable def bMG : M.MG := (gTupM 2 (gsCons (gN 4) (gsCons (gN 5) gsNil)))
noncomputable def bD : MS := (mSeq (mIfS (mTb (mBin fEqD (mVar 2) (mL (mLstF mNil))))
  (mRaise1 4 (mC (.int 0)))
  mPass) (mRet (mCl cTuple (mCons (mVar 2) mNil))))
noncomputable def bs1 : MS := (mSet 6 (mCallP 1 (mFn 4 m_d63) (mCons (mVar 5) mNil)))
noncomputable def bs2 (G0 : PV → PV → Mem → Option PV) : MS := (mSet 7 (mIf (mOrT (mTb (mBin G0 (mVar 4) (mC (.int (2000))))) (mTb (mBin (fIsN false) (mVar 6) (mC .non)))) (mC .non) (mCall 3 (mFn 7 m_d54) (mCons (mVar 0) (mCons (mVar 6) (mCons (mVar 3) mNil))))))
noncomputable def bs3 : MS := (mIfS (mTb (mBin (fIsN false) (mVar 7) (mC .non)))
  (mRaise1 4 (mVar 4))
  mPass)
noncomputable def bs4 : MS := (mExpr (mMt qAppend isLst (mVar 2) (mCons (mVar 6) mNil)))
noncomputable def bs5 : MS := (mExpr (mMt qAppend isLst (mVar 3) (mCons (mVar 7) mNil)))
noncomputable def bLB : MS := mSeq bs1 (mSeq (bs2 fGeI) (mSeq bs3 (mSeq bs4 bs5)))
noncomputable def bC : MS := mFor bIT bMG bLB
theorem beq : m_d71 = mSeq bA (mSeq bB1 (mSeq bB2 (mSeq bC bD))) := rfl
noncomputable abbrev bLn : PV := .str "one"
noncomputable abbrev bFl : PV := .tup [.str "one"]
noncomputable abbrev bPl : PV := .tup []
noncomputable abbrev bE (tx : PV) (x4 x5 x6 x7 : Option PV) : M.Env := [some (.int 1), some tx, some (.ref 0), some (.ref 1), x4, x5, x6, x7]
noncomputable abbrev bM (ys zs : List PV) : Mem := [.lst ys, .lst zs]
theorem bstep (tx : PV) (x6 x7 : Option PV) (ys zs : List PV) (i : Nat) (hi : i < 2000) (hs : szOk ys.length = true) (ht : szOk zs.length = true) :
    bLB (bE tx (some (.int (i : Nat))) (some bLn) x6 x7) (bM ys zs) = .nx (bE tx (some (.int (i : Nat))) (some bLn) (some bFl) (some bPl)) (bM (ys ++ [bFl]) (zs ++ [bPl])) := by
  have h1 : bs1 (bE tx (some (.int (i : Nat))) (some bLn) x6 x7) (bM ys zs) = .nx (bE tx (some (.int (i : Nat))) (some bLn) (some bFl) x7) (bM ys zs) := by kernel_rfl
  have ab : ∀ G0, bs2 G0 (bE tx (some (.int (i : Nat))) (some bLn) (some bFl) x7) (bM ys zs) = bs2 (fun _ _ m => G0 (.int (i : Nat)) (.int 2000) m) (bE tx (some (.int (i : Nat))) (some bLn) (some bFl) x7) (bM ys zs) := fun G0 => by kernel_rfl
  have h2 : bs2 fGeI (bE tx (some (.int (i : Nat))) (some bLn) (some bFl) x7) (bM ys zs) = .nx (bE tx (some (.int (i : Nat))) (some bLn) (some bFl) (some bPl)) (bM ys zs) := by
    rw [ab, show (fun (_ _ : PV) (m : Mem) => fGeI (.int (i : Nat)) (.int 2000) m) = (fun _ _ _ => some (.bl false)) from funext fun _ => funext fun _ => funext fun m => ge_no hi m]
    kernel_rfl
  have h3 : bs3 (bE tx (some (.int (i : Nat))) (some bLn) (some bFl) (some bPl)) (bM ys zs) = .nx (bE tx (some (.int (i : Nat))) (some bLn) (some bFl) (some bPl)) (bM ys zs) := by kernel_rfl
  have h4 : bs4 (bE tx (some (.int (i : Nat))) (some bLn) (some bFl) (some bPl)) (bM ys zs) = .nx (bE tx (some (.int (i : Nat))) (some bLn) (some bFl) (some bPl)) (bM (ys ++ [bFl]) zs) := by
    have q : bs4 (bE tx (some (.int (i : Nat))) (some bLn) (some bFl) (some bPl)) (bM ys zs) = sB ((qAppend (.ref 0) [bFl] (bM ys zs)).calm) (bE tx (some (.int (i : Nat))) (some bLn) (some bFl) (some bPl)) (fun _ m1 => .nx (bE tx (some (.int (i : Nat))) (some bLn) (some bFl) (some bPl)) m1) := by kernel_rfl
    rw [q, q_app rfl hs]
    rfl
  have h5 : bs5 (bE tx (some (.int (i : Nat))) (some bLn) (some bFl) (some bPl)) (bM (ys ++ [bFl]) zs) = .nx (bE tx (some (.int (i : Nat))) (some bLn) (some bFl) (some bPl)) (bM (ys ++ [bFl]) (zs ++ [bPl])) := by
    have q : bs5 (bE tx (some (.int (i : Nat))) (some bLn) (some bFl) (some bPl)) (bM (ys ++ [bFl]) zs) = sB ((qAppend (.ref 1) [bPl] (bM (ys ++ [bFl]) zs)).calm) (bE tx (some (.int (i : Nat))) (some bLn) (some bFl) (some bPl)) (fun _ m1 => .nx (bE tx (some (.int (i : Nat))) (some bLn) (some bFl) (some bPl)) m1) := by kernel_rfl
    rw [q, q_app rfl ht]
    rfl
  unfold bLB
  rw [seq_nx h1, seq_nx h2, seq_nx h3, seq_nx h4]
  exact h5
theorem bgo (tx : PV) (n j : Nat) (hj : j ≤ 2000) (hn : j ≤ n) (F : Nat) : ∀ (d i : Nat) (x4 x5 x6 x7 : Option PV), i + d = j →
    ∃ y4 y5 y6 y7, forL bMG bLB (enI (List.replicate n bLn)) (F + d) i (bE tx x4 x5 x6 x7) (bM (List.replicate i bFl) (List.replicate i bPl)) = forL bMG bLB (enI (List.replicate n bLn)) F j (bE tx y4 y5 y6 y7) (bM (List.replicate j bFl) (List.replicate j bPl)) := by
  intro d
  induction d with
  | zero =>
    intro i x4 x5 x6 x7 h
    obtain rfl : i = j := by omega
    exact ⟨x4, x5, x6, x7, rfl⟩
  | succ d ih =>
    intro i x4 x5 x6 x7 h
    obtain ⟨y4, y5, y6, y7, q⟩ := ih (i + 1) (some (.int (i : Nat))) (some bLn) (some bFl) (some bPl) (by omega)
    refine ⟨y4, y5, y6, y7, ?_⟩
    have hit : enI (List.replicate n bLn) (bM (List.replicate i bFl) (List.replicate i bPl)) i = some (some (.tup [.int (i : Nat), bLn])) := by
      unfold enI
      rw [show (List.replicate n bLn)[i]? = some bLn from by rw [List.getElem?_replicate]; exact if_pos (by omega)]
    have hsz : szOk (List.replicate i bFl).length = true := by
      rw [List.length_replicate]
      exact Nat.ble_eq_true_of_le (by omega)
    have hsz2 : szOk (List.replicate i bPl).length = true := by
      rw [List.length_replicate]
      exact Nat.ble_eq_true_of_le (by omega)
    have hst := bstep tx x6 x7 (List.replicate i bFl) (List.replicate i bPl) i (by omega) hsz hsz2
    rw [rep_succ, rep_succ] at hst
    rw [← q]
    show (match enI (List.replicate n bLn) (bM (List.replicate i bFl) (List.replicate i bPl)) i with
      | none => _
      | some none => _
      | some (some x) => _) = _
    rw [hit]
    show (match bLB (bE tx (some (.int (i : Nat))) (some bLn) x6 x7) (bM (List.replicate i bFl) (List.replicate i bPl)) with
      | .nx e2 m2 => forL bMG bLB (enI (List.replicate n bLn)) (F + d) (i + 1) e2 m2
      | .ct e2 m2 => forL bMG bLB (enI (List.replicate n bLn)) (F + d) (i + 1) e2 m2
      | .bk e2 m2 => .nx e2 m2
      | x => x) = _
    rw [hst]
end
noncomputable def bL (n : Nat) : List Nat := (List.replicate n (Str.cps (Str.ofString "one\n")).toList).flatten
noncomputable abbrev bT (n : Nat) : PV := .str (strS (bL n))
theorem bA2001 : bA [some (.int 1), some (bT 2001), none, none, none, none, none, none] [] = .nx [some (.int 1), some (bT 2001), none, none, none, none, none, none] [] := by kernel_rfl
theorem bB12001 : bB1 [some (.int 1), some (bT 2001), none, none, none, none, none, none] [] = .nx [some (.int 1), some (bT 2001), some (.ref 0), none, none, none, none, none] [.lst []] := by kernel_rfl
theorem bB22001 : bB2 [some (.int 1), some (bT 2001), some (.ref 0), none, none, none, none, none] [.lst []] = .nx (bE (bT 2001) none none none none) (bM [] []) := by kernel_rfl
theorem bI2001 : bIT (bE (bT 2001) none none none none) (bM [] []) = .ok (enI (List.replicate 2001 bLn)) (bM [] []) := by kernel_rfl
theorem bC2001 : ∃ y4 y5 y6 y7, bC (bE (bT 2001) none none none none) (bM [] []) = forL bMG bLB (enI (List.replicate 2001 bLn)) 998000 2000 (bE (bT 2001) y4 y5 y6 y7) (bM (List.replicate 2000 bFl) (List.replicate 2000 bPl)) := by
  obtain ⟨y4, y5, y6, y7, h⟩ := bgo (bT 2001) 2001 2000 (by decide) (by decide) 998000 2000 0 none none none none (by decide)
  refine ⟨y4, y5, y6, y7, ?_⟩
  rw [← h]
  unfold bC mFor
  rw [bI2001, sB_ok]
  rfl
theorem bend (tx : PV) (x6 x7 : Option PV) (ys zs : List PV) : bLB (bE tx (some (.int 2000)) (some bLn) x6 x7) (bM ys zs) = .exc 4 [.int 2000] (bE tx (some (.int 2000)) (some bLn) (some bFl) (some .non)) (bM ys zs) := by kernel_rfl
theorem bover : ∃ m1, mFn 8 m_d71 [.int 1, bT 2001] [] = .exc 4 [.int 2000] m1 := by
  obtain ⟨y4, y5, y6, y7, h⟩ := bC2001
  have hit : enI (List.replicate 2001 bLn) (bM (List.replicate 2000 bFl) (List.replicate 2000 bPl)) 2000 = some (some (.tup [.int 2000, bLn])) := by
    unfold enI
    rw [show (List.replicate 2001 bLn)[2000]? = some bLn from by rw [List.getElem?_replicate]; exact if_pos (by decide)]
    rfl
  have h2 : forL bMG bLB (enI (List.replicate 2001 bLn)) 998000 2000 (bE (bT 2001) y4 y5 y6 y7) (bM (List.replicate 2000 bFl) (List.replicate 2000 bPl)) = .exc 4 [.int 2000] (bE (bT 2001) (some (.int 2000)) (some bLn) (some bFl) (some .non)) (bM (List.replicate 2000 bFl) (List.replicate 2000 bPl)) := by
    exact forL_exc (F := 997999) hit (e1 := bE (bT 2001) (some (.int 2000)) (some bLn) y6 y7) rfl (bend _ _ _ _ _)
  have hh : m_d71 [some (.int 1), some (bT 2001), none, none, none, none, none, none] [] = .exc 4 [.int 2000] (bE (bT 2001) (some (.int 2000)) (some bLn) (some bFl) (some .non)) (bM (List.replicate 2000 bFl) (List.replicate 2000 bPl)) := by
    rw [beq, seq_nx bA2001, seq_nx bB12001, seq_nx bB22001, seq_x (h.trans h2) (fun _ _ z => by cases z)]
  exact ⟨_, mFn_exc rfl hh⟩
theorem brun (m : Mem) : runP 2 (mFn 8 m_d71) [.int 1, bT 2001] m = .exc 4 [.int 2000] m := by
  obtain ⟨m1, h⟩ := bover
  exact runP_x h rfl rfl m
theorem bA2000 : bA [some (.int 1), some (bT 2000), none, none, none, none, none, none] [] = .nx [some (.int 1), some (bT 2000), none, none, none, none, none, none] [] := by kernel_rfl
theorem bB12000 : bB1 [some (.int 1), some (bT 2000), none, none, none, none, none, none] [] = .nx [some (.int 1), some (bT 2000), some (.ref 0), none, none, none, none, none] [.lst []] := by kernel_rfl
theorem bB22000 : bB2 [some (.int 1), some (bT 2000), some (.ref 0), none, none, none, none, none] [.lst []] = .nx (bE (bT 2000) none none none none) (bM [] []) := by kernel_rfl
theorem bI2000 : bIT (bE (bT 2000) none none none none) (bM [] []) = .ok (enI (List.replicate 2000 bLn)) (bM [] []) := by kernel_rfl
theorem bC2000 : ∃ y4 y5 y6 y7, bC (bE (bT 2000) none none none none) (bM [] []) = forL bMG bLB (enI (List.replicate 2000 bLn)) 998000 2000 (bE (bT 2000) y4 y5 y6 y7) (bM (List.replicate 2000 bFl) (List.replicate 2000 bPl)) := by
  obtain ⟨y4, y5, y6, y7, h⟩ := bgo (bT 2000) 2000 2000 (by decide) (by decide) 998000 2000 0 none none none none (by decide)
  refine ⟨y4, y5, y6, y7, ?_⟩
  rw [← h]
  unfold bC mFor
  rw [bI2000, sB_ok]
  rfl
theorem bfin (tx : PV) (y4 y5 y6 y7 : Option PV) : bD (bE tx y4 y5 y6 y7) (bM (List.replicate 2000 bFl) (List.replicate 2000 bPl)) = .rt (.tup (List.replicate 2000 bFl)) (bM (List.replicate 2000 bFl) (List.replicate 2000 bPl)) := by kernel_rfl
theorem bfull : mFn 8 m_d71 [.int 1, bT 2000] [] = .ok (.tup (List.replicate 2000 bFl)) (bM (List.replicate 2000 bFl) (List.replicate 2000 bPl)) := by
  obtain ⟨y4, y5, y6, y7, h⟩ := bC2000
  have hit : enI (List.replicate 2000 bLn) (bM (List.replicate 2000 bFl) (List.replicate 2000 bPl)) 2000 = some none := by
    unfold enI
    rw [show (List.replicate 2000 bLn)[2000]? = none from List.getElem?_eq_none (by rw [List.length_replicate]; exact Nat.le_refl _)]
  have h2 : forL bMG bLB (enI (List.replicate 2000 bLn)) 998000 2000 (bE (bT 2000) y4 y5 y6 y7) (bM (List.replicate 2000 bFl) (List.replicate 2000 bPl)) = .nx (bE (bT 2000) y4 y5 y6 y7) (bM (List.replicate 2000 bFl) (List.replicate 2000 bPl)) := by
    exact forL_stop (F := 997999) hit
  have hh : m_d71 [some (.int 1), some (bT 2000), none, none, none, none, none, none] [] = .rt (.tup (List.replicate 2000 bFl)) (bM (List.replicate 2000 bFl) (List.replicate 2000 bPl)) := by
    rw [beq, seq_nx bA2000, seq_nx bB12000, seq_nx bB22000, seq_nx (h.trans h2)]
    exact bfin _ y4 y5 y6 y7
  exact mFn_rt rfl hh
theorem brun0 (m : Mem) : runP 2 (mFn 8 m_d71) [.int 1, bT 2000] m = .ok (.tup (List.replicate 2000 bFl)) m := runP_v bfull rfl (by kernel_rfl) m
end HV
namespace G
open PySem PySem.Spec PyProof.Rows L2 M HV
noncomputable def lawK (K1 K2 : List PV → Mem → Res PV) : MS := (mSeq (mSet 4 (mN (mLstF (mCons (mTup (mCons (mC (.str "")) (mCons (mC (.int 0)) mNil))) (mCons (mTup (mCons (mC (.str "tie 0 1\n")) (mCons (mC (.int 1)) mNil))) (mCons (mTup (mCons (mC (.str "all -\nnot 1\n")) (mCons (mC (.int 1)) mNil))) (mCons (mTup (mCons (mC (.str "all -\nnot 0")) (mCons (mC (.int 1)) mNil))) (mCons (mTup (mCons (mC (.str "all 0\n")) (mCons (mC (.int 0)) mNil))) mNil))))))))
  (mSeq (mExpr (mMt qAppend isLst (mVar 4) (mCons (mTup (mCons (mC (.str "all -\nleast 0 0 0\n")) (mCons (mC (.int 1)) mNil))) mNil)))
  (mSeq (mSet 4 (mN (mBinF fCatL (mVar 4) (mL (mLstF (mCons (mTup (mCons (mC (.str "all\n")) (mCons (mC (.int 0)) mNil))) (mCons (mTup (mCons (mC (.str "all -\nleast 1 2 0\n")) (mCons (mC (.int 1)) mNil))) (mCons (mTup (mCons (mC (.str "one\n")) (mCons (mC (.int 0)) mNil))) (mCons (mTup (mCons (mC (.str "all -,0\n")) (mCons (mC (.int 0)) mNil))) (mCons (mTup (mCons (mC (.str "all -\nall 0,00\n")) (mCons (mC (.int 1)) mNil))) mNil))))))))))
  (mSeq (mSet 4 (mN (mBinF fCatL (mVar 4) (mL (mLstF (mCons (mTup (mCons (mBin fAdd (mBin fRepS (mC (.str "all -\n")) (mC (.int 2000))) (mC (.str "all -\n"))) (mCons (mC (.int 2000)) mNil))) (mCons (mTup (mCons (mC (.str "all -\nnot -0\n")) (mCons (mC (.int 1)) mNil))) (mCons (mTup (mCons (mC (.str "all -\nnot 0\ntie 0 1\nsome 2\n")) (mCons (mC (.int 4)) mNil))) mNil))))))))
  (mSeq (mIfS (mTb (mBin fNeD (mL (mLc (mPick (mIT (mVar 4)) (mIL (mVar 4))) (gTupM 2 (gsCons (gN 5) (gsCons (gN 6) gsNil))) (mTb (mBin fNeD (mMet 2 5 metL metF (mCallK K1 (mCons (mC (.int 1)) (mCons (mVar 5) mNil)))) (mBin fAdd (mC (.str "line ")) (mCl fReprD (mCons (mVar 6) mNil))))) (mVar 5) [5, 6])) (mL (mLstF mNil))))
  (mRet (mC (.bl false)))
  mPass)
  (mSeq (mSet 4 (mN (mLstF (mCons (mTup (mCons (mC (.str "")) (mCons (mC (.int 0)) mNil))) (mCons (mTup (mCons (mC (.str "one\nsum 0 0\n")) (mCons (mC (.int 1)) mNil))) (mCons (mTup (mCons (mC (.str "point 2\n")) (mCons (mC (.int 0)) mNil))) (mCons (mTup (mCons (mC (.str "one\nglue 0 1\n")) (mCons (mC (.int 1)) mNil))) (mCons (mTup (mCons (mC (.str "one 0\n")) (mCons (mC (.int 0)) mNil))) mNil))))))))
  (mSeq (mExpr (mMt qAppend isLst (mVar 4) (mCons (mTup (mCons (mC (.str "colour 0 -1\n")) (mCons (mC (.int 0)) mNil))) mNil)))
  (mSeq (mSet 4 (mN (mBinF fCatL (mVar 4) (mL (mLstF (mCons (mTup (mCons (mC (.str "one\none")) (mCons (mC (.int 1)) mNil))) (mCons (mTup (mCons (mC (.str "point 0\nsum 1 0\n")) (mCons (mC (.int 1)) mNil))) (mCons (mTup (mCons (mC (.str "one \n")) (mCons (mC (.int 0)) mNil))) (mCons (mTup (mCons (mC (.str " one\n")) (mCons (mC (.int 0)) mNil))) (mCons (mTup (mCons (mBin fRepS (mC (.str "one\n")) (mC (.int 2001))) (mCons (mC (.int 2000)) mNil))) mNil))))))))))
  (mSeq (mIfS (mTb (mBin fNeD (mL (mLc (mPick (mIT (mVar 4)) (mIL (mVar 4))) (gTupM 2 (gsCons (gN 5) (gsCons (gN 6) gsNil))) (mTb (mBin fNeD (mMet 2 5 metL metF (mCallK K2 (mCons (mC (.int 1)) (mCons (mVar 5) mNil)))) (mBin fAdd (mC (.str "line ")) (mCl fReprD (mCons (mVar 6) mNil))))) (mVar 5) [5, 6])) (mL (mLstF mNil))))
  (mRet (mC (.bl false)))
  mPass)
  (mRet (mAndV (mCallP 0 (mFn 3 m_d78) mNil) (mBin fEqD (mMet 2 5 metL metF (mCallK K2 (mCons (mC (.int 1)) (mCons (mBin fRepS (mC (.str "one\n")) (mC (.int 2000))) mNil)))) (mC (.str "fine"))))))))))))))
theorem lawR_eq : lawR = lawK (runP 2 (mFn 8 m_d69)) (runP 2 (mFn 8 m_d71)) := rfl
noncomputable def F1 : List PV → Mem → Res PV := fun xs m => match xs with
  | [.int k, .str s] => if k == 1 && s.cps.toList == aL 2001 then .exc 4 [.int 2000] m else runP 2 (mFn 8 m_d69) [.int k, .str s] m
  | xs => runP 2 (mFn 8 m_d69) xs m
theorem F1_eq : runP 2 (mFn 8 m_d69) = F1 := by
  funext xs m
  unfold F1
  split
  · rename_i k s
    split
    · rename_i hc
      rw [Bool.and_eq_true] at hc
      obtain rfl : k = 1 := eq_of_beq hc.1
      have hs : s = strS (aL 2001) := by rw [← strS_tl s, eq_of_beq hc.2]
      rw [hs]
      exact arun m
    · rfl
  · rfl
noncomputable def F2 : List PV → Mem → Res PV := fun xs m => match xs with
  | [.int k, .str s] => if k == 1 && s.cps.toList == bL 2001 then .exc 4 [.int 2000] m else if k == 1 && s.cps.toList == bL 2000 then .ok (.tup (List.replicate 2000 bFl)) m else runP 2 (mFn 8 m_d71) [.int k, .str s] m
  | xs => runP 2 (mFn 8 m_d71) xs m
theorem F2_eq : runP 2 (mFn 8 m_d71) = F2 := by
  funext xs m
  unfold F2
  split
  · rename_i k s
    split
    · rename_i hc
      rw [Bool.and_eq_true] at hc
      obtain rfl : k = 1 := eq_of_beq hc.1
      have hs : s = strS (bL 2001) := by rw [← strS_tl s, eq_of_beq hc.2]
      rw [hs]
      exact brun m
    · split
      · rename_i hc
        rw [Bool.and_eq_true] at hc
        obtain rfl : k = 1 := eq_of_beq hc.1
        have hs : s = strS (bL 2000) := by rw [← strS_tl s, eq_of_beq hc.2]
        rw [hs]
        exact brun0 m
      · rfl
  · rfl
theorem rest1 (S : PV) (r1 k z : Option PV) : isR (lawR [some S, r1, k, z, none, none, none] []) = true := by
  rw [lawR_eq, F1_eq, F2_eq]
  kernel_rfl
theorem Rt : ∀ k : Nat, k < 1017 → isT' (mFn 11 m_d77 [.int (k : Int)] []) = true := fun k h => right_ok h
theorem forL_go {mg : MG} {body : MS} {it : MI} {n i : Nat} {e e1 e2 : M.Env} {m m1 m2 : Mem} {x : PV} (hi : it m i = some (some x)) (hg : mg x e m = .ok e1 m1) (hb : body e1 m1 = .nx e2 m2) : forL mg body it (n + 1) i e m = forL mg body it n (i + 1) e2 m2 := by
  show (match it m i with
    | none => _
    | some none => _
    | some (some x) => _) = _
  rw [hi]
  show (match mg x e m with
    | .ok e1 m1 => _
    | _ => _) = _
  rw [hg]
  show (match body e1 m1 with
    | .nx e2 m2 => forL mg body it n (i + 1) e2 m2
    | .ct e2 m2 => forL mg body it n (i + 1) e2 m2
    | .bk e2 m2 => .nx e2 m2
    | x => x) = _
  rw [hb]
theorem forL_end {mg : MG} {body : MS} {it : MI} {n i : Nat} {e : M.Env} {m : Mem} (hi : it m i = some none) : forL mg body it (n + 1) i e m = .nx e m := by
  show (match it m i with
    | none => _
    | some none => _
    | some (some x) => _) = _
  rw [hi]
theorem loop {ns : List Int} {S : PV} (h : Scr ns S) : ∃ r1 k z, lawF [some S, none, none, none, none, none, none] [] = .nx [some S, r1, k, z, none, none, none] [] := by
  obtain ⟨k1, z1, h1⟩ := spot_one Rt h 0 (by decide) (r2 := none) (r3 := none) (r4 := none) (r5 := none) (r6 := none)
  obtain ⟨k2, z2, h2⟩ := spot_one Rt h 1 (by decide) (r2 := k1) (r3 := z1) (r4 := none) (r5 := none) (r6 := none)
  have l0 := scr_len h
  by_cases z : ns.length < 2
  · refine ⟨some (.int 0), k1, z1, ?_⟩
    have hI : mIR1 (mCons (mCl cMax2 (mCons (mC (.int 1)) (mCons (mCl cMin2 (mCons (mC (.int 2)) (mCons (mCl (orC cLen (cLenI 5 (mFn 1 m_c19m3))) (mCons (mVar 0) mNil)) mNil))) mNil))) mNil) [some S, none, none, none, none, none, none] [] = .ok (rngI 0 1) [] := by
      have q : ¬ (1 : Int) < (ns.length : Int) := by omega
      have z2 : (ns.length : Int) < 2 := by omega
      simp [mIR1, mCons, mCl, mC, mNil, mVar, orC, l0, Res.bind, oP, cMin2, cMax2, big62, q, z2]
    unfold lawF mFor
    rw [hI]
    show forL (gN 1) spotB (rngI 0 1) (999999 + 1) 0 _ _ = _
    rw [forL_go (x := .int ((0 : Nat) : Int)) (by simp [rngI]) (e1 := [some S, some (.int ((0 : Nat) : Int)), none, none, none, none, none]) rfl h1]
    exact forL_end (n := 999998) (by simp [rngI])
  · refine ⟨some (.int 1), k2, z2, ?_⟩
    have hI : mIR1 (mCons (mCl cMax2 (mCons (mC (.int 1)) (mCons (mCl cMin2 (mCons (mC (.int 2)) (mCons (mCl (orC cLen (cLenI 5 (mFn 1 m_c19m3))) (mCons (mVar 0) mNil)) mNil))) mNil))) mNil) [some S, none, none, none, none, none, none] [] = .ok (rngI 0 2) [] := by
      have q : ¬ (ns.length : Int) < 2 := by omega
      simp [mIR1, mCons, mCl, mC, mNil, mVar, orC, l0, Res.bind, oP, cMin2, cMax2, big62, q]
    unfold lawF mFor
    rw [hI]
    show forL (gN 1) spotB (rngI 0 2) (999999 + 1) 0 _ _ = _
    rw [forL_go (x := .int ((0 : Nat) : Int)) (by simp [rngI]) (e1 := [some S, some (.int ((0 : Nat) : Int)), none, none, none, none, none]) rfl h1]
    show forL (gN 1) spotB (rngI 0 2) (999998 + 1) 1 _ _ = _
    rw [forL_go (x := .int ((1 : Nat) : Int)) (by simp [rngI]) (e1 := [some S, some (.int ((1 : Nat) : Int)), k1, z1, none, none, none]) rfl h2]
    exact forL_end (n := 999997) (by simp [rngI])
theorem all_right {ns : List Int} {S : PV} (h : Scr ns S) : ∃ m, mFn 7 m_d79 [S] [] = .ok (.bl true) m := by
  rw [law_eq]
  have fin : ∀ {e : M.Env} {m : Mem}, lawF [some S, none, none, none, none, none, none] [] = .nx e m → isR (lawR e m) = true → ∃ m, mFn 7 (mSeq lawF lawR) [S] [] = .ok (.bl true) m := fun {e m} h1 h2 => by
    unfold isR at h2
    split at h2
    · rename_i b m2 q
      subst h2
      refine ⟨m2, ?_⟩
      show (match (match lawF [some S, none, none, none, none, none, none] [] with
        | .nx e1 m1 => lawR e1 m1
        | x => x) with
        | .nx _ m' => Res.ok PV.non m'
        | .rt v m' => Res.ok v m'
        | .exc c ws _ m' => Res.exc c ws m'
        | _ => Res.bad) = _
      rw [h1]
      show (match lawR e m with
        | .nx _ m' => Res.ok PV.non m'
        | .rt v m' => Res.ok v m'
        | .exc c ws _ m' => Res.exc c ws m'
        | _ => Res.bad) = _
      rw [q]
    · cases h2
  obtain ⟨r1, k, z, q⟩ := loop h
  exact fin q (rest1 S r1 k z)
theorem say_ok (ns : List Int) (hn : ns.length ≤ 63) (hb : ∀ z ∈ ns, Builtin.Int.intBits z ≤ 1048576) : (∃ m, mFn 7 m_d79 [.lst (ns.map PV.int)] [] = .ok (.bl true) m) ∧ ∃ m, mFn 7 m_d79 [.kst (ns.map PV.int)] [] = .ok (.bl true) m :=
  ⟨all_right (.inl rfl), all_right (.inr rfl)⟩
end G

open PySem PySem.W PyProof.Rows
set_option maxHeartbeats 0 in
theorem PySem.Challenge.cw_fivealike_k91_errors_of_texts_holds : PySem.Challenge.rw_fivealike_k91_errors_of_texts.Holds := by
  w_on; o_law; k_head; (case hw => w_witness2)
  k_fill
  refine M.walk_g (n := 63) (k := 13) (x := "script") rfl (by decide) rfl ⟨rfl, by decide, by decide⟩ (fun w h Y => Y.1) ?F
  intro w mg fa h Y KX GN hmg
  refine' G.end_mk (a52 := 451) (a54 := 458) (a56 := 463) KX GN hmg ?ts (fun ns hn hb => G.say_ok ns hn hb) ?h_nc6 ?h_nc0 ?h_nc1 ?h_nc2 ?h_nc3 ?h_nc4 ?h_nc5 ?h_n0 ?h_l0 ?h_o0 ?h_k0 ?h_n1 ?h_l1 ?h_o1 ?h_k1 ?h_n2 ?h_l2 ?h_o2 ?h_k2 ?h_fn2 ?h_n3 ?h_l3 ?h_o3 ?h_k3 ?h_n4 ?h_l4 ?h_o4 ?h_k4 ?h_n5 ?h_l5 ?h_o5 ?h_k5 ?h_n6 ?h_l6 ?h_o6 ?h_k6 ?h_n7 ?h_l7 ?h_o7 ?h_k7 ?h_n8 ?h_l8 ?h_o8 ?h_k8 ?h_n9 ?h_l9 ?h_o9 ?h_k9 ?h_n10 ?h_l10 ?h_o10 ?h_k10 ?h_n11 ?h_l11 ?h_o11 ?h_k11 ?h_n12 ?h_l12 ?h_o12 ?h_k12 ?h_n13 ?h_l13 ?h_o13 ?h_k13 ?h_n14 ?h_l14 ?h_o14 ?h_k14 ?h_n15 ?h_l15 ?h_o15 ?h_k15 ?h_fn15 ?h_n16 ?h_l16 ?h_o16 ?h_k16 ?h_n17 ?h_l17 ?h_o17 ?h_k17 ?h_n18 ?h_l18 ?h_o18 ?h_k18 ?h_n19 ?h_l19 ?h_o19 ?h_k19 ?h_n20 ?h_l20 ?h_o20 ?h_k20 ?h_n21 ?h_l21 ?h_o21 ?h_k21 ?h_n22 ?h_l22 ?h_o22 ?h_k22 ?h_n23 ?h_l23 ?h_o23 ?h_k23 ?h_n24 ?h_l24 ?h_o24 ?h_k24 ?h_n25 ?h_l25 ?h_o25 ?h_k25 ?h_n26 ?h_l26 ?h_o26 ?h_k26 ?h_n27 ?h_l27 ?h_o27 ?h_k27 ?h_n28 ?h_l28 ?h_o28 ?h_k28 ?h_n29 ?h_l29 ?h_o29 ?h_k29 ?h_n30 ?h_l30 ?h_o30 ?h_k30 ?h_n31 ?h_l31 ?h_o31 ?h_k31 ?h_n32 ?h_l32 ?h_o32 ?h_k32 ?h_fn32 ?h_n33 ?h_l33 ?h_o33 ?h_k33 ?h_n34 ?h_l34 ?h_o34 ?h_k34 ?h_n35 ?h_l35 ?h_o35 ?h_k35 ?h_n36 ?h_l36 ?h_o36 ?h_k36 ?h_fn36 ?h_n37 ?h_l37 ?h_o37 ?h_k37 ?h_n38 ?h_l38 ?h_o38 ?h_k38 ?h_n39 ?h_l39 ?h_o39 ?h_k39 ?h_n40 ?h_l40 ?h_o40 ?h_k40 ?h_n41 ?h_l41 ?h_o41 ?h_k41 ?h_n42 ?h_l42 ?h_o42 ?h_k42 ?h_n43 ?h_l43 ?h_o43 ?h_k43 ?h_n44 ?h_l44 ?h_o44 ?h_k44 ?h_n45 ?h_l45 ?h_o45 ?h_k45 ?h_n46 ?h_l46 ?h_o46 ?h_k46 ?h_n47 ?h_l47 ?h_o47 ?h_k47 ?h_n48 ?h_l48 ?h_o48 ?h_k48 ?h_fn48 ?h_n49 ?h_l49 ?h_o49 ?h_k49 ?h_fn49 ?h_n50 ?h_l50 ?h_o50 ?h_k50 ?h_n57 ?h_l57 ?h_o57 ?h_k57 ?h_fn57 ?h_n58 ?h_l58 ?h_o58 ?h_k58 ?h_fn58 ?h_cc_law_right ?h_ct_law_right ?h_cc_law_webs_right ?h_ct_law_webs_right ?h_cclaw ?h_ctlaw ?h_tne0_1 ?h_tne0_2 ?h_tne1_2 ?h_b_abs ?h_b_all ?h_b_enumerate ?h_b_int ?h_b_isinstance ?h_b_len ?h_b_list ?h_b_max ?h_b_min ?h_b_range ?h_b_repr ?h_b_set ?h_b_sorted ?h_b_str ?h_b_tuple ?h_b_type ?h_pg5 ?h_hd5 ?h_po5 ?h_sa5 ?h_ha5 ?h_mi5 ?h_kc5 ?h_hm5 ?h_me5 ?h_na5_colours ?h_na5_ties ?h_na5__near ?h_na5_degrees ?h_hn ?h_htk ?h_isi ?h_tyo ?h_apt ?h_sb6 ?h_ty6 ?h_ke6 ?h_bsp6 ?h_brd6 ?h_bfc6 ?h_sb0 ?h_ty0 ?h_ke0 ?h_ex0 ?h_sb1 ?h_ty1 ?h_ke1 ?h_ex1 ?h_sb2 ?h_ty2 ?h_ke2 ?h_ex2 ?h_sb3 ?h_ty3 ?h_ke3 ?h_cl3 ?h_ve3 ?h_esa3 ?h_ega3 ?h_egg3 ?h_ehd3 ?h_eno3 ?h_eti3 ?h_sb4 ?h_ty4 ?h_ke4 ?h_cl4 ?h_ve4 ?h_esa4 ?h_ega4 ?h_egg4 ?h_ehd4 ?h_eno4 ?h_eti4 ?h_nk59 ?h_kd59 ?h_kw59 ?h_nk60 ?h_kd60 ?h_kw60 ?h_nv0 ?h_vv0 ?h_nv1 ?h_vv1 ?h_nv2 ?h_vv2 ?h_nv3 ?h_vv3 ?h_nv4 ?h_vv4 ?h_nv5 ?h_vv5 ?h_nv6 ?h_vv6 ?h_nv7 ?h_vv7 ?h_nv8 ?h_vv8 ?h_nv9 ?h_vv9 ?h_nv10 ?h_vv10 ?h_nv11 ?h_vv11 ?h_nv12 ?h_vv12 ?h_nv13 ?h_vv13 ?h_nv14 ?h_vv14
  (case ts =>
    intro P hP
    simp only [List.mem_cons, List.not_mem_nil, or_false] at hP
    rcases hP with rfl | rfl | rfl <;> exact PySem.W.km_tabs_of Y _ (by decide))
  (case h_nc6 => k_is)
  (case h_nc0 => k_is)
  (case h_nc1 => k_is)
  (case h_nc2 => k_is)
  (case h_nc3 => k_is)
  (case h_nc4 => k_is)
  (case h_nc5 => k_is)
  (case h_n0 => k_is)
  (case h_l0 => k_is)
  (case h_o0 => k_is)
  (case h_k0 => k_is)
  (case h_n1 => k_is)
  (case h_l1 => k_is)
  (case h_o1 => k_is)
  (case h_k1 => k_is)
  (case h_n2 => k_is)
  (case h_l2 => k_is)
  (case h_o2 => k_is)
  (case h_k2 => k_is)
  (case h_fn2 => k_is)
  (case h_n3 => k_is)
  (case h_l3 => k_is)
  (case h_o3 => k_is)
  (case h_k3 => k_is)
  (case h_n4 => k_is)
  (case h_l4 => k_is)
  (case h_o4 => k_is)
  (case h_k4 => k_is)
  (case h_n5 => k_is)
  (case h_l5 => k_is)
  (case h_o5 => k_is)
  (case h_k5 => k_is)
  (case h_n6 => k_is)
  (case h_l6 => k_is)
  (case h_o6 => k_is)
  (case h_k6 => k_is)
  (case h_n7 => k_is)
  (case h_l7 => k_is)
  (case h_o7 => k_is)
  (case h_k7 => k_is)
  (case h_n8 => k_is)
  (case h_l8 => k_is)
  (case h_o8 => k_is)
  (case h_k8 => k_is)
  (case h_n9 => k_is)
  (case h_l9 => k_is)
  (case h_o9 => k_is)
  (case h_k9 => k_is)
  (case h_n10 => k_is)
  (case h_l10 => k_is)
  (case h_o10 => k_is)
  (case h_k10 => k_is)
  (case h_n11 => k_is)
  (case h_l11 => k_is)
  (case h_o11 => k_is)
  (case h_k11 => k_is)
  (case h_n12 => k_is)
  (case h_l12 => k_is)
  (case h_o12 => k_is)
  (case h_k12 => k_is)
  (case h_n13 => k_is)
  (case h_l13 => k_is)
  (case h_o13 => k_is)
  (case h_k13 => k_is)
  (case h_n14 => k_is)
  (case h_l14 => k_is)
  (case h_o14 => k_is)
  (case h_k14 => k_is)
  (case h_n15 => k_is)
  (case h_l15 => k_is)
  (case h_o15 => k_is)
  (case h_k15 => k_is)
  (case h_fn15 => k_is)
  (case h_n16 => k_is)
  (case h_l16 => k_is)
  (case h_o16 => k_is)
  (case h_k16 => k_is)
  (case h_n17 => k_is)
  (case h_l17 => k_is)
  (case h_o17 => k_is)
  (case h_k17 => k_is)
  (case h_n18 => k_is)
  (case h_l18 => k_is)
  (case h_o18 => k_is)
  (case h_k18 => k_is)
  (case h_n19 => k_is)
  (case h_l19 => k_is)
  (case h_o19 => k_is)
  (case h_k19 => k_is)
  (case h_n20 => k_is)
  (case h_l20 => k_is)
  (case h_o20 => k_is)
  (case h_k20 => k_is)
  (case h_n21 => k_is)
  (case h_l21 => k_is)
  (case h_o21 => k_is)
  (case h_k21 => k_is)
  (case h_n22 => k_is)
  (case h_l22 => k_is)
  (case h_o22 => k_is)
  (case h_k22 => k_is)
  (case h_n23 => k_is)
  (case h_l23 => k_is)
  (case h_o23 => k_is)
  (case h_k23 => k_is)
  (case h_n24 => k_is)
  (case h_l24 => k_is)
  (case h_o24 => k_is)
  (case h_k24 => k_is)
  (case h_n25 => k_is)
  (case h_l25 => k_is)
  (case h_o25 => k_is)
  (case h_k25 => k_is)
  (case h_n26 => k_is)
  (case h_l26 => k_is)
  (case h_o26 => k_is)
  (case h_k26 => k_is)
  (case h_n27 => k_is)
  (case h_l27 => k_is)
  (case h_o27 => k_is)
  (case h_k27 => k_is)
  (case h_n28 => k_is)
  (case h_l28 => k_is)
  (case h_o28 => k_is)
  (case h_k28 => k_is)
  (case h_n29 => k_is)
  (case h_l29 => k_is)
  (case h_o29 => k_is)
  (case h_k29 => k_is)
  (case h_n30 => k_is)
  (case h_l30 => k_is)
  (case h_o30 => k_is)
  (case h_k30 => k_is)
  (case h_n31 => k_is)
  (case h_l31 => k_is)
  (case h_o31 => k_is)
  (case h_k31 => k_is)
  (case h_n32 => k_is)
  (case h_l32 => k_is)
  (case h_o32 => k_is)
  (case h_k32 => k_is)
  (case h_fn32 => k_is)
  (case h_n33 => k_is)
  (case h_l33 => k_is)
  (case h_o33 => k_is)
  (case h_k33 => k_is)
  (case h_n34 => k_is)
  (case h_l34 => k_is)
  (case h_o34 => k_is)
  (case h_k34 => k_is)
  (case h_n35 => k_is)
  (case h_l35 => k_is)
  (case h_o35 => k_is)
  (case h_k35 => k_is)
  (case h_n36 => k_is)
  (case h_l36 => k_is)
  (case h_o36 => k_is)
  (case h_k36 => k_is)
  (case h_fn36 => k_is)
  (case h_n37 => k_is)
  (case h_l37 => k_is)
  (case h_o37 => k_is)
  (case h_k37 => k_is)
  (case h_n38 => k_is)
  (case h_l38 => k_is)
  (case h_o38 => k_is)
  (case h_k38 => k_is)
  (case h_n39 => k_is)
  (case h_l39 => k_is)
  (case h_o39 => k_is)
  (case h_k39 => k_is)
  (case h_n40 => k_is)
  (case h_l40 => k_is)
  (case h_o40 => k_is)
  (case h_k40 => k_is)
  (case h_n41 => k_is)
  (case h_l41 => k_is)
  (case h_o41 => k_is)
  (case h_k41 => k_is)
  (case h_n42 => k_is)
  (case h_l42 => k_is)
  (case h_o42 => k_is)
  (case h_k42 => k_is)
  (case h_n43 => k_is)
  (case h_l43 => k_is)
  (case h_o43 => k_is)
  (case h_k43 => k_is)
  (case h_n44 => k_is)
  (case h_l44 => k_is)
  (case h_o44 => k_is)
  (case h_k44 => k_is)
  (case h_n45 => k_is)
  (case h_l45 => k_is)
  (case h_o45 => k_is)
  (case h_k45 => k_is)
  (case h_n46 => k_is)
  (case h_l46 => k_is)
  (case h_o46 => k_is)
  (case h_k46 => k_is)
  (case h_n47 => k_is)
  (case h_l47 => k_is)
  (case h_o47 => k_is)
  (case h_k47 => k_is)
  (case h_n48 => k_is)
  (case h_l48 => k_is)
  (case h_o48 => k_is)
  (case h_k48 => k_is)
  (case h_fn48 => k_is)
  (case h_n49 => k_is)
  (case h_l49 => k_is)
  (case h_o49 => k_is)
  (case h_k49 => k_is)
  (case h_fn49 => k_is)
  (case h_n50 => k_is)
  (case h_l50 => k_is)
  (case h_o50 => k_is)
  (case h_k50 => k_is)
  (case h_n57 => k_is)
  (case h_l57 => k_is)
  (case h_o57 => k_is)
  (case h_k57 => k_is)
  (case h_fn57 => k_is)
  (case h_n58 => k_is)
  (case h_l58 => k_is)
  (case h_o58 => k_is)
  (case h_k58 => k_is)
  (case h_fn58 => k_is)
  (case h_cc_law_right => kernel_rfl)
  (case h_ct_law_right => first | rfl | kernel_rfl)
  (case h_cc_law_webs_right => kernel_rfl)
  (case h_ct_law_webs_right => first | rfl | kernel_rfl)
  (case h_cclaw => kernel_rfl)
  (case h_ctlaw => first | rfl | kernel_rfl)
  (case h_tne0_1 => decide)
  (case h_tne0_2 => decide)
  (case h_tne1_2 => decide)
  (case h_b_abs => k_is)
  (case h_b_all => k_is)
  (case h_b_enumerate => k_is)
  (case h_b_int => k_is)
  (case h_b_isinstance => k_is)
  (case h_b_len => k_is)
  (case h_b_list => k_is)
  (case h_b_max => k_is)
  (case h_b_min => k_is)
  (case h_b_range => k_is)
  (case h_b_repr => k_is)
  (case h_b_set => k_is)
  (case h_b_sorted => k_is)
  (case h_b_str => k_is)
  (case h_b_tuple => k_is)
  (case h_b_type => k_is)
  (case h_pg5 => k_is)
  (case h_hd5 => k_is)
  (case h_po5 => k_is)
  (case h_sa5 => k_is)
  (case h_ha5 => k_is)
  (case h_mi5 => k_is)
  (case h_kc5 => k_is)
  (case h_hm5 => k_is)
  (case h_me5 => kernel_rfl)
  (case h_na5_colours => k_is)
  (case h_na5_ties => k_is)
  (case h_na5__near => k_is)
  (case h_na5_degrees => k_is)
  (case h_hn => k_is)
  (case h_htk => k_is)
  (case h_isi => kernel_rfl)
  (case h_tyo => kernel_rfl)
  (case h_apt => kernel_rfl)
  (case h_sb6 => k_is)
  (case h_ty6 => k_is)
  (case h_ke6 => k_is)
  (case h_bsp6 => k_is)
  (case h_brd6 => k_is)
  (case h_bfc6 => k_is)
  (case h_sb0 => k_is)
  (case h_ty0 => k_is)
  (case h_ke0 => k_is)
  (case h_ex0 => kernel_rfl)
  (case h_sb1 => k_is)
  (case h_ty1 => k_is)
  (case h_ke1 => k_is)
  (case h_ex1 => kernel_rfl)
  (case h_sb2 => k_is)
  (case h_ty2 => k_is)
  (case h_ke2 => k_is)
  (case h_ex2 => kernel_rfl)
  (case h_sb3 => k_is)
  (case h_ty3 => k_is)
  (case h_ke3 => k_is)
  (case h_cl3 => k_is)
  (case h_ve3 => first | rfl | kernel_rfl)
  (case h_esa3 => k_is)
  (case h_ega3 => k_is)
  (case h_egg3 => k_is)
  (case h_ehd3 => k_is)
  (case h_eno3 => k_is)
  (case h_eti3 => k_is)
  (case h_sb4 => k_is)
  (case h_ty4 => k_is)
  (case h_ke4 => k_is)
  (case h_cl4 => k_is)
  (case h_ve4 => first | rfl | kernel_rfl)
  (case h_esa4 => k_is)
  (case h_ega4 => k_is)
  (case h_egg4 => k_is)
  (case h_ehd4 => k_is)
  (case h_eno4 => k_is)
  (case h_eti4 => k_is)
  (case h_nk59 => k_is)
  (case h_kd59 => kernel_rfl)
  (case h_kw59 => kernel_rfl)
  (case h_nk60 => k_is)
  (case h_kd60 => kernel_rfl)
  (case h_kw60 => kernel_rfl)
  (case h_nv0 => k_is)
  (case h_vv0 => exact ⟨_, rfl⟩)
  (case h_nv1 => k_is)
  (case h_vv1 => exact ⟨_, rfl⟩)
  (case h_nv2 => k_is)
  (case h_vv2 => exact ⟨_, rfl⟩)
  (case h_nv3 => k_is)
  (case h_vv3 => exact ⟨_, rfl⟩)
  (case h_nv4 => k_is)
  (case h_vv4 => exact ⟨_, rfl⟩)
  (case h_nv5 => k_is)
  (case h_vv5 => exact ⟨_, rfl⟩)
  (case h_nv6 => k_is)
  (case h_vv6 => exact ⟨_, rfl⟩)
  (case h_nv7 => k_is)
  (case h_vv7 => kernel_rfl)
  (case h_nv8 => k_is)
  (case h_vv8 => kernel_rfl)
  (case h_nv9 => k_is)
  (case h_vv9 => exact ⟨_, rfl⟩)
  (case h_nv10 => k_is)
  (case h_vv10 => kernel_rfl)
  (case h_nv11 => k_is)
  (case h_vv11 => exact ⟨_, rfl⟩)
  (case h_nv12 => k_is)
  (case h_vv12 => exact ⟨_, rfl⟩)
  (case h_nv13 => k_is)
  (case h_vv13 => exact ⟨_, rfl⟩)
  (case h_nv14 => k_is)
  (case h_vv14 => kernel_rfl)
