import PyProof.Rows.All
import HandS.ForMost
import HandS.ForExc
import HandS.TryMany
import HandS.ExcInit
import HandS.Lambda
import HandS.IsInst
import KE.KDictKeyed
import HandS.TupAny
import HandS.TupMul
import HandS.Deep
import HandS.Codes
import PyProof.P3In
import HandS.EndTab
import HandS.Wide
import HandS.WideBits
import HandS.SortInts
import HandS.DictComp
import HandS.Small
import HandS.CallLocal
import HandS.Conv
import KE.GoesMore
import KE.GoesZip
import HandS.RevRange
import HandS.Rev
import KE.KDictDisplayH
import HandS.DictTup
import PyProof.FString3
import HandS.FStr
import HandS.StrMore
import HandS.HeadHook3
import HandS.SortKw
import PyProof.MinMaxWalk
import PyProof.WalkInts
import HandS.Style
import HandS.Gcd
import HandS.More
import PyProof.TypeEq
import PyProof.InstEq
import KE.KTypeOf
import Wide.All
import OpenK.AllK
import Wide.FinOn
import PyProof.EqAt
import PyProof.EqKinds
import PyProof.TupleCall
import PySem.Challenge.RW_fivealike_k04_errors_of_webs
set_option Elab.async false
set_option linter.all false
set_option maxRecDepth 100000
set_option maxHeartbeats 4000000
/-! M: an evaluator of plain values, and what it says of the readings of the hand layer. -/
namespace M
open PySem PySem.Spec PyProof.Rows L2

/-! ### values, memory, results -/
inductive PV where
  | non | bl (b : Bool) | int (i : Int) | str (s : Str)
  | tup (xs : List PV) | lst (xs : List PV) | ins (c : Nat) (ws : List PV) | dtt (ks : List (List L2.Key)) (ws : List PV)
  | dct (ks vs : List PV) | glo (k : Nat) | ref (i : Nat) | exn (c : Nat) (ws : List PV) | kst (xs : List PV)
inductive MO where
  | lst (xs : List PV) | ins (c : Nat) (ws : List PV) | dct (ks vs : List PV) | dtt (ks : List (List L2.Key)) (ws : List PV) | dnn (ks ws : List PV)
abbrev Mem := List MO
abbrev Env := List (Option PV)
inductive Res (t : Type) where
  | ok (a : t) (m : Mem) | exc (c : Nat) (ws : List PV) (m : Mem) | bad
inductive SRes where
  | nx (e : Env) (m : Mem) | rt (v : PV) (m : Mem) | bk (e : Env) (m : Mem) | ct (e : Env) (m : Mem)
  | exc (c : Nat) (ws : List PV) (e : Env) (m : Mem) | bad
abbrev ME := Env → Mem → Res PV
abbrev MT := Env → Mem → Res Bool
abbrev MA := Env → Mem → Res (List PV)
abbrev MS := Env → Mem → SRes
abbrev MF := List PV → Mem → Res PV

/-- the text's things: the written part, what the numbers of defs and classes stand for -/
structure Tx where
  P : Program
  w : World
  K : PySem.W.Frag
  g : Nat → V
  cA : Nat → Addr
  cN : Nat → List Str
  /-- the exception that a suite holds, and its own dict -/
  ex : Option (Addr × Addr)
  /-- may tuples of the written part be met -/
  kt : Bool
  /-- tables of code objects -/
  tb : List (Addr × Str)

mutual
/-- a plain value as a key that holds tuples within tuples -/
def nkOf : PV → Option NestedKey
  | .non => some .none
  | .int i => some (.num i)
  | .str x => some (.text x)
  | .tup xs => (nksOf xs).map NestedKey.tup
  | _ => none
def nksOf : List PV → Option (List NestedKey)
  | [] => some []
  | x :: xs => match nkOf x, nksOf xs with
    | some k, some ks => some (k :: ks)
    | _, _ => none
end
/-- at a: a dict with these entries (their keys' tuples are spoken of elsewhere) -/
def NDict (P : Program) (w : World) (a : Addr) (xs : List (NestedKey × Addr × Value)) (h : Heap) : Prop :=
  (a == sysModules) = false ∧ ∃ o es ep, h.get? a = some o ∧ o.ExactDict ∧ o.data = .dict es ep ∧ es.toList = xs.map (entryOfKey (nestedKind P w)) ∧ (xs.map (·.1)).Nodup
/-- a tuple, a list of the written part -/
def Kt (K : PySem.W.Frag) (a : Addr) (xs : List V) : Prop :=
  ∃ (o : Obj) (its : Array Value) (n : Nat), K.lookup a = some o ∧ o.cls = .type "tuple" ∧ o.data = .seq its n ∧ its.size ≤ sizeLine ∧ Vals xs its.toList
/-- a list of the written part -/
def Kl (K : PySem.W.Frag) (a : Addr) (xs : List V) : Prop :=
  ∃ (o : Obj) (its : Array Value) (n : Nat), K.lookup a = some o ∧ o.cls = .type "list" ∧ o.dict = none ∧ o.data = .seq its n ∧ its.size ≤ sizeLine ∧ Vals xs its.toList
def keyP : Key → PV
  | .inl i => .int i
  | .inr s => .str s
/-- a dict's keys, as plain values, and its values -/
def DK (H : Hp) (a : Addr) (ks : List PV) (ws : List V) : Prop :=
  (∃ kvs : List (Key × V), Rd H a (.dK kvs) ∧ ks = kvs.map (fun kv => keyP kv.1) ∧ ws = kvs.map (·.2)) ∨
    ∃ kvs : List (List Key × V), Rd H a (.dT kvs) ∧ ks = kvs.map (fun kv => PV.tup (kv.1.map keyP)) ∧ ws = kvs.map (·.2) ∧ kvs ≠ []
/-- .. that may be written -/
def DM (H : Hp) (a : Addr) (ks : List PV) (ws : List V) : Prop :=
  (∃ kvs : List (Key × V), H a = some (.dK kvs) ∧ ks = kvs.map (fun kv => keyP kv.1) ∧ ws = kvs.map (·.2)) ∨
    ∃ kvs : List (List Key × V), H a = some (.dT kvs) ∧ ks = kvs.map (fun kv => PV.tup (kv.1.map keyP)) ∧ ws = kvs.map (·.2) ∧ kvs ≠ []
theorem DM.dk {H : Hp} {a : Addr} {ks : List PV} {ws : List V} (h : DM H a ks ws) : DK H a ks ws := by
  rcases h with ⟨kvs, h1, h2⟩ | ⟨kvs, h1, h2⟩
  · exact .inl ⟨kvs, .inl h1, h2⟩
  · exact .inr ⟨kvs, .inl h1, h2⟩
def nTbl : HO → Prop
  | .tbl _ => False
  | _ => True
def nTup : HO → Prop
  | .tup _ => False
  | _ => True
theorem nTup_ne {o : HO} (h : nTup o) {vs : List V} : o ≠ .tup vs := fun z => by subst z; exact h
theorem nTbl_ne {o : HO} (h : nTbl o) : ∀ ps, o ≠ .tbl ps := fun ps z => by subst z; exact h
theorem nTbl_of {o : HO} (h : ∀ ps, o ≠ .tbl ps) : nTbl o := by
  cases o <;> first | trivial | exact (h _ rfl).elim
/-- something, and no table -/
def Hard (H : Hp) (a : Addr) : Prop := ∃ o, H a = some o ∧ nTbl o
theorem soft {H : Hp} {a : Addr} (h : H a = none) : ¬ Hard H a := fun ⟨o, e, _⟩ => by rw [h] at e; cases e
/-- av: addresses that plain values keep away from; r: the memory's addresses -/
abbrev Av := Addr → Prop
def Out (av : Av) (r : List Addr) (a : Addr) : Prop := ¬ av a ∧ a ∉ r

section
variable (T : Tx) (av : Av) (r : List Addr) (H : Hp)
mutual
def RV : PV → V → Prop
  | .non, v => v = .non
  | .bl b, v => v = .bl b
  | .int i, v => v = .int i
  | .str s, v => v = .str s
  | .tup xs, v => ∃ a vs, v = .ref a ∧ ((Out av r a ∧ H a = some (.tup vs)) ∨ (T.kt = true ∧ Kt T.K a vs)) ∧ RVs xs vs
  | .lst xs, v => ∃ a vs, v = .ref a ∧ Out av r a ∧ Rd H a (.lst vs) ∧ RVs xs vs
  | .ins c ws, v => ∃ a dx fs, v = .ref a ∧ Out av r a ∧ H a = some (.ins (T.cA c) dx fs) ∧ fs.map (·.1) = T.cN c ∧ RVs ws (fs.map (·.2))
  | .dtt ks ws, v => ∃ a kvs, v = .ref a ∧ Out av r a ∧ Rd H a (.dT kvs) ∧ kvs.map (·.1) = ks ∧ RVs ws (kvs.map (·.2))
  | .dct ks ws, v => ∃ a vs, v = .ref a ∧ Out av r a ∧ DK H a ks vs ∧ RVs ws vs
  | .glo k, v => v = T.g k
  | .ref i, v => ∃ a, r[i]? = some a ∧ v = .ref a
  | .kst xs, v => ∃ a vs, v = .ref a ∧ Kl T.K a vs ∧ RVs xs vs
  | .exn c ws, v => ∃ a dx fs, T.ex = some (a, dx) ∧ v = .ref a ∧ Out av r dx ∧ H dx = some (.xd fs) ∧ fs.map (·.1) = T.cN c ∧ RVs ws (fs.map (·.2))
def RVs : List PV → List V → Prop
  | [], vs => vs = []
  | x :: xs, vs => ∃ v ws, vs = v :: ws ∧ RV x v ∧ RVs xs ws
end
/-- an object of the memory -/
def RO : MO → Addr → Prop
  | .lst xs, a => ∃ vs, H a = some (.lst vs) ∧ RVs T av r H xs vs
  | .ins c ws, a => ∃ dx fs, H a = some (.ins (T.cA c) dx fs) ∧ fs.map (·.1) = (T.cN c).take ws.length ∧ RVs T av r H ws (fs.map (·.2)) ∧ fs.length ≤ 900
  | .dtt ks ws, a => ∃ kvs, H a = some (.dT kvs) ∧ kvs.map (·.1) = ks ∧ RVs T av r H ws (kvs.map (·.2))
  | .dnn ks ws, a => ∃ (xs : List (NestedKey × Addr × Value)) (vs : List V), H a = some (.ext (NDict T.P T.w a xs)) ∧ nksOf ks = some (xs.map (·.1)) ∧ RVs T av r H ks (xs.map fun x => V.ref x.2.1) ∧ RVs T av r H ws vs ∧ Vals vs (xs.map (·.2.2)) ∧ ∀ x ∈ xs, x.1.depth ≤ 8
  | .dct ks ws, a => ∃ vs, DM H a ks vs ∧ RVs T av r H ws vs
structure RM (m : Mem) : Prop where
  len : r.length = m.length
  nd : r.Nodup
  ob : ∀ (i : Nat) (o : MO) (a : Addr), m[i]? = some o → r[i]? = some a → RO T av r H o a
  tb : LamX.Tabs T.tb H
  th : ∀ a, av a ∨ a ∈ r → Hard H a
  nt : ∀ a, av a → ∀ vs, H a ≠ some (.tup vs)
def RE : Env → L2.St → Prop := Paired fun (x : Option PV) (y : Option V) => ∀ v, x = some v → ∃ w, y = some w ∧ RV T av r H v w
end

/-- what a step may do -/
structure Grow (r : List Addr) (H : Hp) (r' : List Addr) (H' : Hp) : Prop where
  ext : ∃ more, r' = r ++ more ∧ ∀ a ∈ more, ¬ Hard H a
  keep : ∀ b o, H b = some o → b ∉ r → (∀ ps, o ≠ .tbl ps) → H' b = some o
  there : ∀ b, Hard H b → Hard H' b
variable {T : Tx} {av av' : Av} {r r' r2 : List Addr} {H H' H2 : Hp} {m m' : Mem}
theorem Grow.refl : Grow r H r H := ⟨⟨[], by simp, by simp⟩, fun _ _ e _ _ => e, fun _ e => e⟩
theorem Grow.trans (a : Grow r H r' H') (b : Grow r' H' r2 H2) : Grow r H r2 H2 := by
  obtain ⟨m1, e1, f1⟩ := a.ext
  obtain ⟨m2, e2, f2⟩ := b.ext
  refine ⟨⟨m1 ++ m2, by rw [e2, e1, List.append_assoc], fun x hx => ?_⟩, fun x o e n t => ?_, fun x e => b.there x (a.there x e)⟩
  · rcases List.mem_append.mp hx with h | h
    · exact f1 x h
    · exact fun z => f2 x h (a.there x z)
  · refine b.keep x o (a.keep x o e n t) (fun h => ?_) t
    rw [e1] at h
    rcases List.mem_append.mp h with h | h
    · exact n h
    · exact f1 x h ⟨o, e, nTbl_of t⟩
theorem rd_keep {a : Addr} {u : HO} (g : Grow r H r' H') (n : a ∉ r) (h : Rd H a u) (nt : ∀ ps, u ≠ .tbl ps) : Rd H' a u := by
  rcases h with h | ⟨o, h⟩
  · exact .inl (g.keep _ _ h n nt)
  · exact .inr ⟨o, g.keep _ _ h n (fun ps z => by cases z)⟩
theorem rd_some {a : Addr} {u : HO} (h : Rd H a u) (t : nTbl u := by trivial) : Hard H a := by
  rcases h with h | ⟨o, h⟩
  · exact ⟨_, h, t⟩
  · exact ⟨_, h, trivial⟩
theorem dk_some {a : Addr} {ks : List PV} {ws : List V} (h : DK H a ks ws) : Hard H a := by
  rcases h with ⟨_, h, _⟩ | ⟨_, h, _⟩ <;> exact rd_some h
theorem dk_keep {a : Addr} {ks : List PV} {ws : List V} (g : Grow r H r' H') (n : a ∉ r) (h : DK H a ks ws) : DK H' a ks ws := by
  rcases h with ⟨kvs, h, e⟩ | ⟨kvs, h, e⟩
  · exact .inl ⟨kvs, rd_keep g n h (fun ps z => by cases z), e⟩
  · exact .inr ⟨kvs, rd_keep g n h (fun ps z => by cases z), e⟩
theorem Out.grow {a : Addr} (g : Grow r H r' H') (o : Out av r a) (h : Hard H a) : Out av r' a := by
  obtain ⟨more, e, f⟩ := g.ext
  refine ⟨o.1, fun hm => ?_⟩
  rw [e] at hm
  rcases List.mem_append.mp hm with q | q
  · exact o.2 q
  · exact f a q h
theorem get_grow {i : Nat} {a : Addr} (g : Grow r H r' H') (h : r[i]? = some a) : r'[i]? = some a := by
  obtain ⟨more, e, _⟩ := g.ext
  rw [e, List.getElem?_append_left (List.getElem?_eq_some_iff.mp h).1]
  exact h
mutual
theorem RV.grow (g : Grow r H r' H') : ∀ (x : PV) {v : V}, RV T av r H x v → RV T av r' H' x v
  | .non, _, h => by unfold RV at *; exact h
  | .bl _, _, h => by unfold RV at *; exact h
  | .int _, _, h => by unfold RV at *; exact h
  | .str _, _, h => by unfold RV at *; exact h
  | .tup xs, _, h => by
    unfold RV at *
    obtain ⟨a, vs, e, h1, h2⟩ := h
    refine ⟨a, vs, e, ?_, RVs.grow g xs h2⟩
    rcases h1 with ⟨o, d⟩ | k
    · exact .inl ⟨o.grow g ⟨_, d, trivial⟩, g.keep _ _ d o.2 (fun ps z => by cases z)⟩
    · exact .inr k
  | .kst xs, _, h => by
    unfold RV at *
    obtain ⟨a, vs, e, k, h2⟩ := h
    exact ⟨a, vs, e, k, RVs.grow g xs h2⟩
  | .lst xs, _, h => by
    unfold RV at *
    obtain ⟨a, vs, e, o, d, h2⟩ := h
    exact ⟨a, vs, e, o.grow g (rd_some d), rd_keep g o.2 d (fun ps z => by cases z), RVs.grow g xs h2⟩
  | .ins c ws, _, h => by
    unfold RV at *
    obtain ⟨a, dx, fs, e, o, d, n, h2⟩ := h
    exact ⟨a, dx, fs, e, o.grow g ⟨_, d, trivial⟩, g.keep _ _ d o.2 (fun ps z => by cases z), n, RVs.grow g ws h2⟩
  | .dtt ks ws, _, h => by
    unfold RV at *
    obtain ⟨a, kvs, e, o, d, nm, h2⟩ := h
    exact ⟨a, kvs, e, o.grow g (rd_some d), rd_keep g o.2 d (fun ps z => by cases z), nm, RVs.grow g ws h2⟩
  | .exn c ws, _, h => by
    unfold RV at *
    obtain ⟨a, dx, fs, ex, e, o, d, n, h2⟩ := h
    exact ⟨a, dx, fs, ex, e, o.grow g ⟨_, d, trivial⟩, g.keep _ _ d o.2 (fun ps z => by cases z), n, RVs.grow g ws h2⟩
  | .dct ks ws, _, h => by
    unfold RV at *
    obtain ⟨a, vs, e, o, d, h2⟩ := h
    exact ⟨a, vs, e, o.grow g (dk_some d), dk_keep g o.2 d, RVs.grow g ws h2⟩
  | .glo _, _, h => by unfold RV at *; exact h
  | .ref i, _, h => by
    unfold RV at *
    obtain ⟨a, h1, h2⟩ := h
    exact ⟨a, get_grow g h1, h2⟩
theorem RVs.grow (g : Grow r H r' H') : ∀ (xs : List PV) {vs : List V}, RVs T av r H xs vs → RVs T av r' H' xs vs
  | [], _, h => by unfold RVs at *; exact h
  | x :: xs, _, h => by
    unfold RVs at *
    obtain ⟨v, ws, e, h1, h2⟩ := h
    exact ⟨v, ws, e, RV.grow g x h1, RVs.grow g xs h2⟩
end
theorem RE.grow (g : Grow r H r' H') : ∀ {e : Env} {s : L2.St}, RE T av r H e s → RE T av r' H' e s
  | _, _, .nil => .nil
  | _, _, .cons h t => .cons (fun v hv => by obtain ⟨w, e, q⟩ := h v hv; exact ⟨w, e, RV.grow g _ q⟩) (RE.grow g t)
theorem RE.get : ∀ {e : Env} {s : L2.St} {i : Nat} {v : PV}, RE T av r H e s → e[i]? = some (some v) → ∃ w, s[i]? = some (some w) ∧ RV T av r H v w
  | _, _, _, _, .nil, h => by simp at h
  | _, _, 0, v, .cons h t, e => by
    simp at e
    obtain ⟨w, e1, q⟩ := h v e
    exact ⟨w, by simp [e1], q⟩
  | _, _, i + 1, v, .cons _ t, e => by
    obtain ⟨w, e1, q⟩ := RE.get (i := i) t (by simpa using e)
    exact ⟨w, by simpa using e1, q⟩
theorem RE.set {v : PV} {w : V} (q : RV T av r H v w) : ∀ {e : Env} {s : L2.St} (i : Nat), RE T av r H e s → RE T av r H (e.set i (some v)) (s.set i (some w))
  | _, _, _, .nil => .nil
  | _, _, 0, .cons _ t => .cons (fun v' hv => by cases hv; exact ⟨w, rfl, q⟩) t
  | _, _, i + 1, .cons h t => .cons h (RE.set q i t)

/-- an exception that is told by its class and its fields -/
def RX (T : Tx) (av : Av) (r : List Addr) (H : Hp) (c : Nat) (ws : List PV) (cls : Value) (d : Option Addr) : Prop :=
  cls = .ref (T.cA c) ∧ (ws = [] ∨ ∃ dx fs, d = some dx ∧ Out av r dx ∧ H dx = some (.xd fs) ∧ fs.map (·.1) = T.cN c ∧ RVs T av r H ws (fs.map (·.2)))

/-! ### readings by the evaluator -/
/-- behind a step: what is wanted of its value and memory; of its exception -/
def okR (T : Tx) (av : Av) (r : List Addr) (H : Hp) (W : Value → Option Addr → Hp → Prop) {s : Type} (K : s → Mem → Prop) : Res s → Prop
  | .ok v m' => K v m'
  | .exc c ws m' => ∀ r' H' cls d, Grow r H r' H' → RM T av r' H' m' → RX T av r' H' c ws cls d → W cls d H'
  | .bad => False
def KE (T : Tx) (av : Av) (r : List Addr) (H : Hp) (Q : VK) (v : PV) (m' : Mem) : Prop := ∀ r' H' w, Grow r H r' H' → RM T av r' H' m' → RV T av r' H' v w → Q w H'
def KT (T : Tx) (av : Av) (r : List Addr) (H : Hp) (Q : Bool → Hp → Prop) (v : Bool) (m' : Mem) : Prop := ∀ r' H', Grow r H r' H' → RM T av r' H' m' → Q v H'
def KA (T : Tx) (av : Av) (r : List Addr) (H : Hp) (Q : List V → Hp → Prop) (v : List PV) (m' : Mem) : Prop := ∀ r' H' w, Grow r H r' H' → RM T av r' H' m' → RVs T av r' H' v w → Q w H'
/-- a new list, not yet anybody's -/
def KF (T : Tx) (av : Av) (r : List Addr) (H : Hp) (Q : VK) (xs : List PV) (m' : Mem) : Prop := ∀ r' H' p vs, Grow r H r' H' → ¬ Hard H p → p ∉ r' → H' p = some (.lst vs) → RM T (fun a => av a ∨ a = p) r' H' m' → RVs T (fun a => av a ∨ a = p) r' H' xs vs → Q (.ref p) H'
abbrev okE (T : Tx) (av : Av) (r : List Addr) (H : Hp) (W : Value → Option Addr → Hp → Prop) (Q : VK) : Res PV → Prop := okR T av r H W (KE T av r H Q)
abbrev okT (T : Tx) (av : Av) (r : List Addr) (H : Hp) (W : Value → Option Addr → Hp → Prop) (Q : Bool → Hp → Prop) : Res Bool → Prop := okR T av r H W (KT T av r H Q)
abbrev okA (T : Tx) (av : Av) (r : List Addr) (H : Hp) (W : Value → Option Addr → Hp → Prop) (Q : List V → Hp → Prop) : Res (List PV) → Prop := okR T av r H W (KA T av r H Q)
abbrev okF (T : Tx) (av : Av) (r : List Addr) (H : Hp) (W : Value → Option Addr → Hp → Prop) (Q : VK) : Res (List PV) → Prop := okR T av r H W (KF T av r H Q)
def tE (T : Tx) (W : WX) (me : ME) : TE := fun σ H Q => ∃ av r e m, RE T av r H e σ ∧ RM T av r H m ∧ okE T av r H (fun c d H' => W c d σ H') Q (me e m)
def tT (T : Tx) (W : WX) (me : MT) : TT := fun σ H Q => ∃ av r e m, RE T av r H e σ ∧ RM T av r H m ∧ okT T av r H (fun c d H' => W c d σ H') Q (me e m)
def tA (T : Tx) (W : WX) (me : MA) : TA := fun σ H Q => ∃ av r e m, RE T av r H e σ ∧ RM T av r H m ∧ okA T av r H (fun c d H' => W c d σ H') Q (me e m)
def tF (T : Tx) (W : WX) (me : MA) : TE := fun σ H Q => ∃ av r e m, RE T av r H e σ ∧ RM T av r H m ∧ okF T av r H (fun c d H' => W c d σ H') Q (me e m)
def okS (T : Tx) (av : Av) (r : List Addr) (H : Hp) (W : WX) (D : Ends) : SRes → Prop
  | .nx e' m' => ∀ r' H' σ', Grow r H r' H' → RM T av r' H' m' → RE T av r' H' e' σ' → D.nx σ' H'
  | .bk e' m' => ∀ r' H' σ', Grow r H r' H' → RM T av r' H' m' → RE T av r' H' e' σ' → D.bk σ' H'
  | .ct e' m' => ∀ r' H' σ', Grow r H r' H' → RM T av r' H' m' → RE T av r' H' e' σ' → D.ct σ' H'
  | .rt v m' => ∀ r' H' w, Grow r H r' H' → RM T av r' H' m' → RV T av r' H' v w → D.rt w H'
  | .exc c ws e' m' => ∀ r' H' σ' cls d, Grow r H r' H' → RM T av r' H' m' → RE T av r' H' e' σ' → RX T av r' H' c ws cls d → W cls d σ' H'
  | .bad => False
def tS (T : Tx) (W : WX) (ms : MS) : TS := fun D σ H => ∃ av r e m, RE T av r H e σ ∧ RM T av r H m ∧ okS T av r H W D (ms e m)

structure SE (X : Cx) (T : Tx) (W : WX) (e : Expr) (me : ME) : Prop where pe : PE X e (tE T W me)
structure ST (X : Cx) (T : Tx) (W : WX) (e : Expr) (me : MT) : Prop where pt : PT X e (tT T W me)
structure SW (X : Cx) (T : Tx) (W : WX) (e : Expr) (me : MT) : Prop where pw : PW X e (tT T W me)
structure SA (X : Cx) (T : Tx) (W : WX) (es : List Expr) (me : MA) : Prop where pa : PA X es (tA T W me)
structure SF (X : Cx) (T : Tx) (W : WX) (e : Expr) (me : MA) : Prop where pe : PE X e (tF T W me)
structure SS (X : Cx) (T : Tx) (W : WX) (st : Stmt) (ms : MS) : Prop where ps : PS X st (tS T W ms)
structure SB (X : Cx) (T : Tx) (W : WX) (st : List Stmt) (ms : MS) : Prop where ps : PSs X st (tS T W ms)

/-- from readings: a PE whose reading follows -/
theorem PE.imp {X : Cx} {e : Expr} {t t' : TE} (h : PE X e t) (f : ∀ σ H Q, t' σ H Q → t σ H Q) : PE X e t' := ⟨fun pins s σ H Q I q => h.run pins s σ H Q I (f σ H Q q)⟩
theorem PT.imp {X : Cx} {e : Expr} {t t' : TT} (h : PT X e t) (f : ∀ σ H Q, t' σ H Q → t σ H Q) : PT X e t' := ⟨fun pins s σ H Q I q => h.run pins s σ H Q I (f σ H Q q)⟩
theorem PW.imp {X : Cx} {e : Expr} {t t' : TT} (h : PW X e t) (f : ∀ σ H Q, t' σ H Q → t σ H Q) : PW X e t' := ⟨fun wh pins s σ H Q I q => h.run wh pins s σ H Q I (f σ H Q q)⟩
theorem PA.imp {X : Cx} {e : List Expr} {t t' : TA} (h : PA X e t) (f : ∀ σ H Q, t' σ H Q → t σ H Q) : PA X e t' := ⟨fun p pins s σ H Q I q => h.run p pins s σ H Q I (f σ H Q q)⟩
theorem PS.imp {X : Cx} {e : Stmt} {t t' : TS} (h : PS X e t) (f : ∀ D σ H, t' D σ H → t D σ H) : PS X e t' := ⟨fun pins s σ H D I q => h.run pins s σ H D I (f D σ H q)⟩
theorem PSs.imp {X : Cx} {e : List Stmt} {t t' : TS} (h : PSs X e t) (f : ∀ D σ H, t' D σ H → t D σ H) : PSs X e t' := ⟨fun pins s σ H D I q => h.run pins s σ H D I (f D σ H q)⟩

/-! ### bind -/
def Res.bind {s t : Type} (x : Res s) (f : s → Mem → Res t) : Res t :=
  match x with
  | .ok a m => f a m
  | .exc c ws m => .exc c ws m
  | .bad => .bad
theorem okR_bind {W : Value → Option Addr → Hp → Prop} {s t : Type} {K : t → Mem → Prop} {f : s → Mem → Res t} : ∀ {x : Res s}, okR T av r H W K (x.bind f) → okR T av r H W (fun v m => okR T av r H W K (f v m)) x
  | .ok _ _, h => h
  | .exc _ _ _, h => h
  | .bad, h => h
theorem okR_imp {W : Value → Option Addr → Hp → Prop} {s : Type} {K K' : s → Mem → Prop} : ∀ {x : Res s}, okR T av r H W K x → (∀ v m, K v m → K' v m) → okR T av r H W K' x
  | .ok _ _, h, f => f _ _ h
  | .exc _ _ _, h, _ => h
  | .bad, h, _ => h
/-- a wish at the state ahead, wished here -/
theorem okR_grow {W : Value → Option Addr → Hp → Prop} {s : Type} {K K' : s → Mem → Prop} (g : Grow r H r' H') (f : ∀ v m, K v m → K' v m) : ∀ {x : Res s}, okR T av r H W K x → okR T av r' H' W K' x
  | .ok _ _, h => f _ _ h
  | .exc _ _ _, h => fun r2 H2 c d g2 rm rx => h r2 H2 c d (g.trans g2) rm rx
  | .bad, h => h
theorem KE.grow {Q : VK} (g : Grow r H r' H') {v : PV} {m : Mem} (h : KE T av r H Q v m) : KE T av r' H' Q v m := fun r2 H2 w g2 => h r2 H2 w (g.trans g2)
theorem KT.grow {Q : Bool → Hp → Prop} (g : Grow r H r' H') {v : Bool} {m : Mem} (h : KT T av r H Q v m) : KT T av r' H' Q v m := fun r2 H2 g2 => h r2 H2 (g.trans g2)
theorem KA.grow {Q : List V → Hp → Prop} (g : Grow r H r' H') {v : List PV} {m : Mem} (h : KA T av r H Q v m) : KA T av r' H' Q v m := fun r2 H2 w g2 => h r2 H2 w (g.trans g2)
theorem Grow.none (g : Grow r H r' H') {p : Addr} (hp : ¬ Hard H' p) : ¬ Hard H p := fun z => hp (g.there p z)
theorem KF.grow {Q : VK} (g : Grow r H r' H') {v : List PV} {m : Mem} (h : KF T av r H Q v m) : KF T av r' H' Q v m := fun r2 H2 p vs g2 hp => h r2 H2 p vs (g.trans g2) (g.none hp)
end M

namespace M
open PySem PySem.Spec PyProof.Rows L2
variable {X : Cx} {T : Tx} {W : WX} {a b c : Expr} {ma mb mc : ME} {pos : Pos}

/-! ### names, constants -/
def mVar (i : Nat) : ME := fun e m => match e[i]? with
  | some (some v) => .ok v m
  | _ => .bad
def mC (v : PV) : ME := fun _ m => .ok v m
theorem se_var (i : Nat) {x : Str} (hN : X.N[i]? = some x := by rfl) (hv : Vis X.env.scope x := by first | exact Or.inl rfl | exact Or.inr (Or.inl rfl) | exact Or.inr (Or.inr rfl))
    (hd : (x == ("__debug__" : Str)) = false := by decide) (hcd : (x == ("__classdict__" : Str)) = false := by decide) : SE X T W (.Name x pos) (mVar i) :=
  ⟨PE.imp (pe_var hN hv hd hcd) fun σ H Q ⟨av, r, e, m, re, rm, h⟩ => by
    unfold mVar at h
    split at h
    · rename_i v hv
      obtain ⟨w, hw, q⟩ := re.get hv
      exact ⟨w, hw, h r H w .refl rm q⟩
    · exact h.elim⟩
theorem se_const {e : Expr} {x : PV} {v : V} (hp : PE X e (tC v)) (hr : ∀ av r H, RV T av r H x v) : SE X T W e (mC x) :=
  ⟨PE.imp hp fun σ H Q ⟨av, r, e, m, re, rm, h⟩ => h r H v .refl rm (hr _ _ _)⟩
theorem se_int {i : Int} {j} : SE X T W (.Constant (.int i) j pos) (mC (.int i)) := se_const pe_int fun _ _ _ => by unfold RV; rfl
theorem se_bl {i : Bool} {j} : SE X T W (.Constant (.bool i) j pos) (mC (.bl i)) := se_const pe_bl fun _ _ _ => by unfold RV; rfl
theorem se_non {j} : SE X T W (.Constant .none j pos) (mC .non) := se_const pe_non fun _ _ _ => by unfold RV; rfl
theorem se_str {s : Str} {j} : SE X T W (.Constant (.str s) j pos) (mC (.str s)) := se_const pe_str fun _ _ _ => by unfold RV; rfl
/-- a def, a class of the text as a value -/
theorem se_glo (k : Nat) {x : Str} {u : Value} (hg : Gl X x) (hm : X.mg x = some u) (hr : RelV (T.g k) u) (hd : (x == ("__debug__" : Str)) = false := by decide) : SE X T W (.Name x pos) (mC (.glo k)) :=
  se_const (pe_glob hg hm hr hd) fun _ _ _ => by unfold RV; rfl
theorem se_glob (k : Nat) {x : Str} {u : Value} (hg : Gl X x) (hm : X.mg x = none) (hv : bootBuiltins x = some u) (hr : RelV (T.g k) u) (hn : x ≠ "__name__" := by decide) (hd : (x == ("__debug__" : Str)) = false := by decide) : SE X T W (.Name x pos) (mC (.glo k)) :=
  se_const (pe_bltn hg hm hv hr hn hd) fun _ _ _ => by unfold RV; rfl
/-- a module's constant: an int -/
theorem se_gint {i : Int} {x : Str} {u : Value} (hg : Gl X x) (hm : X.mg x = some u) (hr : RelV (.int i) u) (hd : (x == ("__debug__" : Str)) = false := by decide) : SE X T W (.Name x pos) (mC (.int i)) :=
  se_const (pe_glob hg hm hr hd) fun _ _ _ => by unfold RV; rfl

/-! ### arguments -/
def mNil : MA := fun _ m => .ok [] m
def mCons (ma : ME) (mr : MA) : MA := fun e m => (ma e m).bind fun v m1 => (mr e m1).bind fun vs m2 => .ok (v :: vs) m2
theorem sa_nil : SA X T W [] mNil := ⟨PA.imp pa_nil fun σ H Q ⟨av, r, e, m, re, rm, h⟩ => h r H [] .refl rm (by unfold RVs; rfl)⟩
theorem sa_cons {es : List Expr} {mr : MA} (ha : SE X T W a ma) (hr : SA X T W es mr) (hs : starEach (a :: es) X.env = (false, eval a X.env) :: starEach es X.env := by rfl) : SA X T W (a :: es) (mCons ma mr) :=
  ⟨PA.imp (pa_cons ha.pe hr.pa hs) fun σ H Q ⟨av, r, e, m, re, rm, h⟩ =>
    ⟨av, r, e, m, re, rm, okR_imp (okR_bind h) fun v m1 h r1 H1 w g1 rm1 rv =>
      ⟨av, r1, e, m1, re.grow g1, rm1, okR_grow g1 (fun vs m2 h r2 H2 ws g2 rm2 rvs => h r2 H2 (w :: ws) (g1.trans g2) rm2 (by unfold RVs; exact ⟨w, ws, rfl, rv.grow g2, rvs⟩)) (okR_bind h)⟩⟩⟩

/-! ### displays -/
theorem RVs.length : ∀ {av : Av} {r : List Addr} {H : Hp} {xs : List PV} {vs : List V}, RVs T av r H xs vs → vs.length = xs.length
  | _, _, _, [], _, h => by unfold RVs at h; rw [h]; rfl
  | _, _, _, x :: xs, _, h => by
    unfold RVs at h
    obtain ⟨v, ws, e, _, h2⟩ := h
    rw [e, List.length_cons, List.length_cons, RVs.length h2]
theorem rd_upd {H : Hp} {p a : Addr} {o u : HO} (hp : H p = none) (h : Rd H a u) : Rd (upd H p o) a u := by
  have ne : a ≠ p := fun z => by
    subst z
    rcases h with h | ⟨o', h⟩ <;> (rw [hp] at h; cases h)
  rcases h with h | ⟨o', h⟩
  · exact .inl (by rw [upd_ne ne]; exact h)
  · exact .inr ⟨o', by rw [upd_ne ne]; exact h⟩
theorem dk_upd {H : Hp} {p a : Addr} {o : HO} {ks : List PV} {ws : List V} (hp : H p = none) (h : DK H a ks ws) : DK (upd H p o) a ks ws := by
  rcases h with ⟨kvs, h, e⟩ | ⟨kvs, h, e⟩
  · exact .inl ⟨kvs, rd_upd hp h, e⟩
  · exact .inr ⟨kvs, rd_upd hp h, e⟩
theorem dm_upd {H : Hp} {p a : Addr} {o : HO} {ks : List PV} {ws : List V} (ne : a ≠ p) (h : DM H a ks ws) : DM (upd H p o) a ks ws := by
  rcases h with ⟨kvs, h, e⟩ | ⟨kvs, h, e⟩
  · exact .inl ⟨kvs, by rw [upd_ne ne]; exact h, e⟩
  · exact .inr ⟨kvs, by rw [upd_ne ne]; exact h, e⟩
theorem dm_some {H : Hp} {a : Addr} {ks : List PV} {ws : List V} (h : DM H a ks ws) : Hard H a := dk_some h.dk
/-! all stands, and keeps away from a new address -/
mutual
theorem RV.away {av : Av} {r : List Addr} {H : Hp} {p : Addr} {o : HO} (hp : H p = none) : ∀ (x : PV) {v : V}, RV T av r H x v → RV T (fun a => av a ∨ a = p) r (upd H p o) x v
  | .non, _, h => by unfold RV at *; exact h
  | .bl _, _, h => by unfold RV at *; exact h
  | .int _, _, h => by unfold RV at *; exact h
  | .str _, _, h => by unfold RV at *; exact h
  | .tup xs, _, h => by
    unfold RV at *
    obtain ⟨a, vs, e, h1, h2⟩ := h
    refine ⟨a, vs, e, ?_, RVs.away hp xs h2⟩
    rcases h1 with ⟨o, d⟩ | k
    · have ne : a ≠ p := fun z => by rw [z, hp] at d; cases d
      exact .inl ⟨⟨fun z => z.elim o.1 ne, o.2⟩, by rw [upd_ne ne]; exact d⟩
    · exact .inr k
  | .kst xs, _, h => by
    unfold RV at *
    obtain ⟨a, vs, e, k, h2⟩ := h
    exact ⟨a, vs, e, k, RVs.away hp xs h2⟩
  | .lst xs, _, h => by
    unfold RV at *
    obtain ⟨a, vs, e, o, d, h2⟩ := h
    exact ⟨a, vs, e, ⟨fun z => z.elim o.1 fun z => soft hp (z ▸ rd_some d), o.2⟩, rd_upd hp d, RVs.away hp xs h2⟩
  | .ins c ws, _, h => by
    unfold RV at *
    obtain ⟨a, dx, fs, e, o, d, n, h2⟩ := h
    have ne : a ≠ p := fun z => by rw [z, hp] at d; cases d
    exact ⟨a, dx, fs, e, ⟨fun z => z.elim o.1 ne, o.2⟩, by rw [upd_ne ne]; exact d, n, RVs.away hp ws h2⟩
  | .dtt ks ws, _, h => by
    unfold RV at *
    obtain ⟨a, kvs, e, o, d, nm, h2⟩ := h
    exact ⟨a, kvs, e, ⟨fun z => z.elim o.1 fun z => soft hp (z ▸ rd_some d), o.2⟩, rd_upd hp d, nm, RVs.away hp ws h2⟩
  | .exn c ws, _, h => by
    unfold RV at *
    obtain ⟨a, dx, fs, ex, e, o, d, n, h2⟩ := h
    have ne : dx ≠ p := fun z => by rw [z, hp] at d; cases d
    exact ⟨a, dx, fs, ex, e, ⟨fun z => z.elim o.1 ne, o.2⟩, by rw [upd_ne ne]; exact d, n, RVs.away hp ws h2⟩
  | .dct ks ws, _, h => by
    unfold RV at *
    obtain ⟨a, vs, e, o, d, h2⟩ := h
    exact ⟨a, vs, e, ⟨fun z => z.elim o.1 fun z => soft hp (z ▸ dk_some d), o.2⟩, dk_upd hp d, RVs.away hp ws h2⟩
  | .glo _, _, h => by unfold RV at *; exact h
  | .ref i, _, h => by unfold RV at *; exact h
theorem RVs.away {av : Av} {r : List Addr} {H : Hp} {p : Addr} {o : HO} (hp : H p = none) : ∀ (xs : List PV) {vs : List V}, RVs T av r H xs vs → RVs T (fun a => av a ∨ a = p) r (upd H p o) xs vs
  | [], _, h => by unfold RVs at *; exact h
  | x :: xs, _, h => by
    unfold RVs at *
    obtain ⟨v, ws, e, h1, h2⟩ := h
    exact ⟨v, ws, e, RV.away hp x h1, RVs.away hp xs h2⟩
end
/-! a wider set to keep away from is forgotten -/
mutual
theorem RV.near {av : Av} {r : List Addr} {H : Hp} {p : Addr} : ∀ (x : PV) {v : V}, RV T (fun a => av a ∨ a = p) r H x v → RV T av r H x v
  | .non, _, h => by unfold RV at *; exact h
  | .bl _, _, h => by unfold RV at *; exact h
  | .int _, _, h => by unfold RV at *; exact h
  | .str _, _, h => by unfold RV at *; exact h
  | .tup xs, _, h => by
    unfold RV at *
    obtain ⟨a, vs, e, h1, h2⟩ := h
    refine ⟨a, vs, e, ?_, RVs.near xs h2⟩
    rcases h1 with ⟨o, d⟩ | k
    · exact .inl ⟨⟨fun z => o.1 (.inl z), o.2⟩, d⟩
    · exact .inr k
  | .kst xs, _, h => by
    unfold RV at *
    obtain ⟨a, vs, e, k, h2⟩ := h
    exact ⟨a, vs, e, k, RVs.near xs h2⟩
  | .lst xs, _, h => by
    unfold RV at *
    obtain ⟨a, vs, e, o, d, h2⟩ := h
    exact ⟨a, vs, e, ⟨fun z => o.1 (.inl z), o.2⟩, d, RVs.near xs h2⟩
  | .ins c ws, _, h => by
    unfold RV at *
    obtain ⟨a, dx, fs, e, o, d, n, h2⟩ := h
    exact ⟨a, dx, fs, e, ⟨fun z => o.1 (.inl z), o.2⟩, d, n, RVs.near ws h2⟩
  | .dtt ks ws, _, h => by
    unfold RV at *
    obtain ⟨a, kvs, e, o, d, nm, h2⟩ := h
    exact ⟨a, kvs, e, ⟨fun z => o.1 (.inl z), o.2⟩, d, nm, RVs.near ws h2⟩
  | .exn c ws, _, h => by
    unfold RV at *
    obtain ⟨a, dx, fs, ex, e, o, d, n, h2⟩ := h
    exact ⟨a, dx, fs, ex, e, ⟨fun z => o.1 (.inl z), o.2⟩, d, n, RVs.near ws h2⟩
  | .dct ks ws, _, h => by
    unfold RV at *
    obtain ⟨a, vs, e, o, d, h2⟩ := h
    exact ⟨a, vs, e, ⟨fun z => o.1 (.inl z), o.2⟩, d, RVs.near ws h2⟩
  | .glo _, _, h => by unfold RV at *; exact h
  | .ref i, _, h => by unfold RV at *; exact h
theorem RVs.near {av : Av} {r : List Addr} {H : Hp} {p : Addr} : ∀ (xs : List PV) {vs : List V}, RVs T (fun a => av a ∨ a = p) r H xs vs → RVs T av r H xs vs
  | [], _, h => by unfold RVs at *; exact h
  | x :: xs, _, h => by
    unfold RVs at *
    obtain ⟨v, ws, e, h1, h2⟩ := h
    exact ⟨v, ws, e, RV.near x h1, RVs.near xs h2⟩
end
/-! .. or becomes the memory's next address -/
mutual
theorem RV.held {av : Av} {r : List Addr} {H : Hp} {p : Addr} : ∀ (x : PV) {v : V}, RV T (fun a => av a ∨ a = p) r H x v → RV T av (r ++ [p]) H x v
  | .non, _, h => by unfold RV at *; exact h
  | .bl _, _, h => by unfold RV at *; exact h
  | .int _, _, h => by unfold RV at *; exact h
  | .str _, _, h => by unfold RV at *; exact h
  | .tup xs, _, h => by
    unfold RV at *
    obtain ⟨a, vs, e, h1, h2⟩ := h
    refine ⟨a, vs, e, ?_, RVs.held xs h2⟩
    rcases h1 with ⟨o, d⟩ | k
    · exact .inl ⟨⟨fun z => o.1 (.inl z), fun z => (List.mem_append.mp z).elim o.2 fun z => o.1 (.inr (by simpa using z))⟩, d⟩
    · exact .inr k
  | .kst xs, _, h => by
    unfold RV at *
    obtain ⟨a, vs, e, k, h2⟩ := h
    exact ⟨a, vs, e, k, RVs.held xs h2⟩
  | .lst xs, _, h => by
    unfold RV at *
    obtain ⟨a, vs, e, o, d, h2⟩ := h
    exact ⟨a, vs, e, ⟨fun z => o.1 (.inl z), fun z => (List.mem_append.mp z).elim o.2 fun z => o.1 (.inr (by simpa using z))⟩, d, RVs.held xs h2⟩
  | .ins c ws, _, h => by
    unfold RV at *
    obtain ⟨a, dx, fs, e, o, d, n, h2⟩ := h
    exact ⟨a, dx, fs, e, ⟨fun z => o.1 (.inl z), fun z => (List.mem_append.mp z).elim o.2 fun z => o.1 (.inr (by simpa using z))⟩, d, n, RVs.held ws h2⟩
  | .dtt ks ws, _, h => by
    unfold RV at *
    obtain ⟨a, kvs, e, o, d, nm, h2⟩ := h
    exact ⟨a, kvs, e, ⟨fun z => o.1 (.inl z), fun z => (List.mem_append.mp z).elim o.2 fun z => o.1 (.inr (by simpa using z))⟩, d, nm, RVs.held ws h2⟩
  | .exn c ws, _, h => by
    unfold RV at *
    obtain ⟨a, dx, fs, ex, e, o, d, n, h2⟩ := h
    exact ⟨a, dx, fs, ex, e, ⟨fun z => o.1 (.inl z), fun z => (List.mem_append.mp z).elim o.2 fun z => o.1 (.inr (by simpa using z))⟩, d, n, RVs.held ws h2⟩
  | .dct ks ws, _, h => by
    unfold RV at *
    obtain ⟨a, vs, e, o, d, h2⟩ := h
    exact ⟨a, vs, e, ⟨fun z => o.1 (.inl z), fun z => (List.mem_append.mp z).elim o.2 fun z => o.1 (.inr (by simpa using z))⟩, d, RVs.held ws h2⟩
  | .glo _, _, h => by unfold RV at *; exact h
  | .ref i, _, h => by
    unfold RV at *
    obtain ⟨a, h1, h2⟩ := h
    exact ⟨a, by rw [List.getElem?_append_left (List.getElem?_eq_some_iff.mp h1).1]; exact h1, h2⟩
theorem RVs.held {av : Av} {r : List Addr} {H : Hp} {p : Addr} : ∀ (xs : List PV) {vs : List V}, RVs T (fun a => av a ∨ a = p) r H xs vs → RVs T av (r ++ [p]) H xs vs
  | [], _, h => by unfold RVs at *; exact h
  | x :: xs, _, h => by
    unfold RVs at *
    obtain ⟨v, ws, e, h1, h2⟩ := h
    exact ⟨v, ws, e, RV.held x h1, RVs.held xs h2⟩
end
variable {av : Av} {r : List Addr} {H : Hp} {p : Addr} {o : HO} {m : Mem}
theorem RO.away (hp : H p = none) : ∀ {x : MO} {a : Addr}, RO T av r H x a → RO T (fun a => av a ∨ a = p) r (upd H p o) x a
  | .lst xs, a, ⟨vs, h1, h2⟩ => ⟨vs, by rw [upd_ne (fun z => by rw [z, hp] at h1; cases h1)]; exact h1, h2.away hp⟩
  | .ins c ws, a, ⟨dx, fs, h1, h2, h3, h4⟩ => ⟨dx, fs, by rw [upd_ne (fun z => by rw [z, hp] at h1; cases h1)]; exact h1, h2, h3.away hp, h4⟩
  | .dtt ks ws, a, ⟨kvs, h1, h2, h3⟩ => ⟨kvs, by rw [upd_ne (fun z => by rw [z, hp] at h1; cases h1)]; exact h1, h2, h3.away hp⟩
  | .dct ks ws, a, ⟨vs, h1, h2⟩ => ⟨vs, dm_upd (fun z => soft hp (z ▸ dm_some h1)) h1, h2.away hp⟩
  | .dnn ks ws, a, ⟨xs, vs, h1, h2, h3, h4, h5⟩ => ⟨xs, vs, by rw [upd_ne (fun z => by rw [z, hp] at h1; cases h1)]; exact h1, h2, h3.away hp, h4.away hp, h5⟩
theorem RO.near : ∀ {x : MO} {a : Addr}, RO T (fun a => av a ∨ a = p) r H x a → RO T av r H x a
  | .lst xs, a, ⟨vs, h1, h2⟩ => ⟨vs, h1, h2.near⟩
  | .ins c ws, a, ⟨dx, fs, h1, h2, h3, h4⟩ => ⟨dx, fs, h1, h2, h3.near, h4⟩
  | .dtt ks ws, a, ⟨kvs, h1, h2, h3⟩ => ⟨kvs, h1, h2, h3.near⟩
  | .dct ks ws, a, ⟨vs, h1, h2⟩ => ⟨vs, h1, h2.near⟩
  | .dnn ks ws, a, ⟨xs, vs, h1, h2, h3, h4, h5⟩ => ⟨xs, vs, h1, h2, h3.near, h4.near, h5⟩
theorem RO.held : ∀ {x : MO} {a : Addr}, RO T (fun a => av a ∨ a = p) r H x a → RO T av (r ++ [p]) H x a
  | .lst xs, a, ⟨vs, h1, h2⟩ => ⟨vs, h1, h2.held⟩
  | .ins c ws, a, ⟨dx, fs, h1, h2, h3, h4⟩ => ⟨dx, fs, h1, h2, h3.held, h4⟩
  | .dtt ks ws, a, ⟨kvs, h1, h2, h3⟩ => ⟨kvs, h1, h2, h3.held⟩
  | .dct ks ws, a, ⟨vs, h1, h2⟩ => ⟨vs, h1, h2.held⟩
  | .dnn ks ws, a, ⟨xs, vs, h1, h2, h3, h4, h5⟩ => ⟨xs, vs, h1, h2, h3.held, h4.held, h5⟩
theorem RM.away (hp : H p = none) (h : RM T av r H m) (ho : nTbl o := by trivial) (hu : nTup o := by trivial) : RM T (fun a => av a ∨ a = p) r (upd H p o) m :=
  ⟨h.len, h.nd, fun i x a h1 h2 => (h.ob i x a h1 h2).away hp, h.tb.ext fun b u e => by rw [upd_ne (fun z => by rw [z, hp] at e; cases e)]; exact e, fun a ha => by
    by_cases z : a = p
    · subst z; exact ⟨o, upd_same, ho⟩
    · obtain ⟨u, e, t⟩ := h.th a (ha.elim (fun q => q.elim .inl fun y => absurd y z) .inr)
      exact ⟨u, by rw [upd_ne z]; exact e, t⟩, fun a ha vs e => by
    by_cases z : a = p
    · subst z
      rw [upd_same] at e
      exact nTup_ne hu (Option.some.inj e)
    · rw [upd_ne z] at e
      exact h.nt a (ha.elim id fun y => absurd y z) vs e⟩
theorem RM.near (h : RM T (fun a => av a ∨ a = p) r H m) : RM T av r H m :=
  ⟨h.len, h.nd, fun i x a h1 h2 => (h.ob i x a h1 h2).near, h.tb, fun a ha => h.th a (ha.elim (fun q => .inl (.inl q)) .inr), fun a ha => h.nt a (.inl ha)⟩
/-- a new object that is nobody's -/
theorem RM.pass (hp : H p = none) (h : RM T av r H m) (ho : nTbl o := by trivial) : RM T av r (upd H p o) m :=
  ⟨h.len, h.nd, fun i x a h1 h2 => ((h.ob i x a h1 h2).away hp).near, h.tb.ext fun b u e => by rw [upd_ne (fun z => by rw [z, hp] at e; cases e)]; exact e, fun a ha => by
    obtain ⟨u, e, t⟩ := h.th a ha
    exact ⟨u, by rw [upd_ne (fun z => by rw [z, hp] at e; cases e)]; exact e, t⟩, fun a ha vs e => by
    obtain ⟨u, e2, _⟩ := h.th a (.inl ha)
    rw [upd_ne (fun z => by rw [z, hp] at e2; cases e2)] at e
    exact h.nt a ha vs e⟩
theorem RM.rnt (h : RM T av r H m) {a : Addr} (ha : a ∈ r) (vs : List V) : H a ≠ some (.tup vs) := fun e => by
  obtain ⟨i, hi⟩ := List.getElem?_of_mem ha
  have lt : i < m.length := by rw [← h.len]; exact (List.getElem?_eq_some_iff.mp hi).1
  have q := h.ob i _ a (List.getElem?_eq_getElem lt) hi
  generalize m[i] = o at q
  cases o with
  | lst xs => obtain ⟨us, h1, _⟩ := q; rw [e] at h1; cases h1
  | ins c ws => obtain ⟨dx, fs, h1, _⟩ := q; rw [e] at h1; cases h1
  | dtt ks ws => obtain ⟨kvs, h1, _⟩ := q; rw [e] at h1; cases h1
  | dnn ks ws => obtain ⟨xs, us, h1, _⟩ := q; rw [e] at h1; cases h1
  | dct ks ws =>
    obtain ⟨us, h1, _⟩ := q
    rcases h1 with ⟨_, d, _⟩ | ⟨_, d, _⟩ <;> (rw [e] at d; cases d)
/-- a tuple stands apart from what is kept -/
theorem RM.tupOut (h : RM T av r H m) {a : Addr} {vs : List V} (e : H a = some (.tup vs)) : Out av r a := ⟨fun z => h.nt a z vs e, fun z => h.rnt z vs e⟩
theorem RM.held {x : MO} (h : RM T (fun a => av a ∨ a = p) r H m) (n : p ∉ r) (ho : RO T (fun a => av a ∨ a = p) r H x p) : RM T av (r ++ [p]) H (m ++ [x]) := by
  refine ⟨by rw [List.length_append, List.length_append, h.len]; rfl, ?_, fun i y a h1 h2 => ?_, h.tb, fun a ha => ?_, fun a ha => h.nt a (.inl ha)⟩
  · rw [List.nodup_append]
    exact ⟨h.nd, by simp, fun y hy z hz => by simp at hz; subst hz; exact fun e => n (e ▸ hy)⟩
  · by_cases hi : i < m.length
    · rw [List.getElem?_append_left hi] at h1
      rw [List.getElem?_append_left (by rw [h.len]; exact hi)] at h2
      exact (h.ob i y a h1 h2).held
    · by_cases he : i = m.length
      · subst he
        rw [List.getElem?_append_right (Nat.le_refl _)] at h1
        rw [List.getElem?_append_right (by rw [h.len]; exact Nat.le_refl _), h.len] at h2
        simp at h1 h2
        subst h1 h2
        exact ho.held
      · rw [List.getElem?_eq_none (by rw [List.length_append]; simp; omega)] at h1
        cases h1
  · rcases ha with q | q
    · exact h.th a (.inl (.inl q))
    · rcases List.mem_append.mp q with q | q
      · exact h.th a (.inr q)
      · exact h.th a (.inl (.inr (by simpa using q)))
theorem grow_upd (hp : H p = none) : Grow r H r (upd H p o) :=
  have f : ∀ b u, H b = some u → upd H p o b = some u := fun b u e => by rw [upd_ne (fun z => by rw [z, hp] at e; cases e)]; exact e
  ⟨⟨[], by simp, by simp⟩, fun b u e _ _ => f b u e, fun b ⟨u, e, t⟩ => ⟨u, f b u e, t⟩⟩
theorem grow_held {r' : List Addr} {H' : Hp} (g : Grow r H r' H') (hp : ¬ Hard H p) : Grow r H (r' ++ [p]) H' := by
  obtain ⟨more, e, f⟩ := g.ext
  exact ⟨⟨more ++ [p], by rw [e, List.append_assoc], fun a ha => (List.mem_append.mp ha).elim (f a) fun z => by simp at z; subst z; exact hp⟩, g.keep, g.there⟩
def szOk (n : Nat) : Bool := Nat.ble n 1000000
theorem szOk_le {n : Nat} (h : szOk n = true) : n ≤ sizeLine := Nat.le_trans (Nat.le_of_ble_eq_true h) (by rw [sizeLine_eq]; decide)
theorem szOk_lt {n : Nat} (h : szOk n = true) : n < sizeLine := Nat.lt_of_le_of_lt (Nat.le_of_ble_eq_true h) (by rw [sizeLine_eq]; decide)
def mTup (ma : MA) : ME := fun e m => (ma e m).bind fun vs m1 => if szOk vs.length then .ok (.tup vs) m1 else .bad
theorem RM.fresh (h : RM T av r H m) (hp : H p = none) : p ∉ r := fun z => soft hp (h.th p (.inr z))
theorem RM.freshA (h : RM T av r H m) (hp : H p = none) : ¬ av p := fun z => soft hp (h.th p (.inl z))
theorem RM.freshH (h : RM T av r H m) (hp : ¬ Hard H p) : p ∉ r := fun z => hp (h.th p (.inr z))
theorem RM.freshB (h : RM T av r H m) (hp : ¬ Hard H p) : ¬ av p := fun z => hp (h.th p (.inl z))
theorem se_tup {es : List Expr} {x1} {mr : MA} (ha : SA X T W es mr) : SE X T W (.Tuple es x1 pos) (mTup mr) :=
  ⟨PE.imp (pe_tup ha.pa) fun σ H Q ⟨av, r, e, m, re, rm, h⟩ =>
    ⟨av, r, e, m, re, rm, okR_imp (okR_bind h) fun vs m1 h r1 H1 ws g1 rm1 rvs => by
      split at h
      · rename_i hz
        refine ⟨by rw [rvs.length]; exact szOk_le hz, fun p hp => ?_⟩
        have g2 : Grow r1 H1 r1 (upd H1 p (.tup ws)) := grow_upd hp
        refine h r1 _ (.ref p) (g1.trans g2) (rm1.pass hp) ?_
        unfold RV
        exact ⟨p, ws, rfl, .inl ⟨⟨rm1.freshA hp, rm1.fresh hp⟩, upd_same⟩, rvs.grow g2⟩
      · exact h.elim⟩⟩

/-- a list that is written -/
def mLstF (ma : MA) : MA := fun e m => (ma e m).bind fun vs m1 => if szOk vs.length then .ok vs m1 else .bad
theorem sf_lst {es : List Expr} {mr : MA} (ha : SA X T W es mr) : SF X T W (.List es pos) (mLstF mr) :=
  ⟨PE.imp (pe_lst ha.pa) fun σ H Q ⟨av, r, e, m, re, rm, h⟩ =>
    ⟨av, r, e, m, re, rm, okR_imp (okR_bind h) fun vs m1 h r1 H1 ws g1 rm1 rvs => by
      split at h
      · rename_i hz
        exact ⟨by rw [rvs.length]; exact szOk_le hz, fun p hp => h r1 _ p ws (g1.trans (grow_upd hp)) (g1.none (soft hp)) (rm1.fresh hp) upd_same (rm1.away hp) (rvs.away hp)⟩
      · exact h.elim⟩⟩

/-- a new list as a plain value; as the memory's -/
def mL (ma : MA) : ME := fun e m => (ma e m).bind fun vs m1 => .ok (.lst vs) m1
def mN (ma : MA) : ME := fun e m => (ma e m).bind fun vs m1 => .ok (.ref m1.length) (m1 ++ [.lst vs])
theorem se_lst {mr : MA} (ha : SF X T W a mr) : SE X T W a (mL mr) :=
  ⟨PE.imp ha.pe fun σ H Q ⟨av, r, e, m, re, rm, h⟩ =>
    ⟨av, r, e, m, re, rm, okR_imp (okR_bind h) fun vs m1 h r1 H1 p ws g1 hp np hl rm1 rvs =>
      h r1 H1 (.ref p) g1 rm1.near (by unfold RV; exact ⟨p, ws, rfl, ⟨rm.freshB hp, np⟩, .inl hl, rvs.near⟩)⟩⟩

theorem se_new {mr : MA} (ha : SF X T W a mr) : SE X T W a (mN mr) :=
  ⟨PE.imp ha.pe fun σ H Q ⟨av, r, e, m, re, rm, h⟩ =>
    ⟨av, r, e, m, re, rm, okR_imp (okR_bind h) fun vs m1 h r1 H1 p ws g1 hp np hl rm1 rvs =>
      h (r1 ++ [p]) H1 (.ref p) (grow_held g1 hp) (rm1.held np ⟨ws, hl, rvs⟩) (by unfold RV; exact ⟨p, by rw [← rm1.len]; simp, rfl⟩)⟩⟩

end M

namespace M
open PySem PySem.Spec PyProof.Rows L2
variable {X : Cx} {T : Tx} {W : WX} {a b c : Expr} {ma mb mc : ME} {pos : Pos}

/-! ### what a value is -/
def lstOf : PV → Mem → Option (List PV)
  | .lst xs, _ => some xs
  | .ref i, m => match m[i]? with
    | some (.lst xs) => some xs
    | _ => none
  | _, _ => none
theorem lstOf_ok {av : Av} {r : List Addr} {H : Hp} {m : Mem} {x : PV} {v : V} {xs : List PV} (rm : RM T av r H m) (rv : RV T av r H x v) (h : lstOf x m = some xs) : ∃ a vs, v = .ref a ∧ Rd H a (.lst vs) ∧ RVs T av r H xs vs := by
  cases x <;> simp only [lstOf] at h <;> try cases h
  · unfold RV at rv
    obtain ⟨a, vs, e, _, d, h2⟩ := rv
    exact ⟨a, vs, e, d, h2⟩
  · rename_i i
    split at h
    · rename_i ys hy
      cases h
      unfold RV at rv
      obtain ⟨a, h1, e⟩ := rv
      obtain ⟨vs, h2, h3⟩ := rm.ob i _ a hy h1
      exact ⟨a, vs, e, .inl h2, h3⟩
    · cases h
theorem tup_ok (hK : X.K = T.K) {av : Av} {r : List Addr} {H : Hp} {xs : List PV} {v : V} (rv : RV T av r H (.tup xs) v) : ∃ a vs, v = .ref a ∧ SqT X.K H a vs ∧ RVs T av r H xs vs := by
  unfold RV at rv
  obtain ⟨a, vs, e, h1, h2⟩ := rv
  refine ⟨a, vs, e, ?_, h2⟩
  rcases h1 with ⟨_, d⟩ | k
  · exact .inl (.inl d)
  · exact .inr (by rw [hK]; exact k.2)
theorem kst_ok (hK : X.K = T.K) {av : Av} {r : List Addr} {H : Hp} {xs : List PV} {v : V} (rv : RV T av r H (.kst xs) v) : ∃ a vs, v = .ref a ∧ SqL X.K H a vs ∧ RVs T av r H xs vs := by
  unfold RV at rv
  obtain ⟨a, vs, e, k, h⟩ := rv
  exact ⟨a, vs, e, .inr (by rw [hK]; exact k), h⟩
theorem RV.int' {av : Av} {r : List Addr} {H : Hp} {i : Int} {v : V} (h : RV T av r H (.int i) v) : v = .int i := by unfold RV at h; exact h
theorem RV.bl' {av : Av} {r : List Addr} {H : Hp} {i : Bool} {v : V} (h : RV T av r H (.bl i) v) : v = .bl i := by unfold RV at h; exact h
theorem RV.str' {av : Av} {r : List Addr} {H : Hp} {i : Str} {v : V} (h : RV T av r H (.str i) v) : v = .str i := by unfold RV at h; exact h
theorem RV.non' {av : Av} {r : List Addr} {H : Hp} {v : V} (h : RV T av r H .non v) : v = .non := by unfold RV at h; exact h
theorem rv_int {av : Av} {r : List Addr} {H : Hp} {i : Int} : RV T av r H (.int i) (.int i) := by unfold RV; rfl
theorem rv_bl {av : Av} {r : List Addr} {H : Hp} {i : Bool} : RV T av r H (.bl i) (.bl i) := by unfold RV; rfl
theorem rv_str {av : Av} {r : List Addr} {H : Hp} {i : Str} : RV T av r H (.str i) (.str i) := by unfold RV; rfl
theorem rv_non {av : Av} {r : List Addr} {H : Hp} : RV T av r H .non .non := by unfold RV; rfl

/-! ### two-place operations -/
def OpM (X : Cx) (T : Tx) (F : Value → Value → Sem Value) (f : PV → PV → Mem → Option PV) : Prop :=
  ∃ rd : R2, OpR X F rd ∧ ∀ {av : Av} {r : List Addr} {H : Hp} {m : Mem} {x y z : PV} {v w : V} {Q : VK}, RM T av r H m → RV T av r H x v → RV T av r H y w → f x y m = some z → KE T av r H Q z m → rd v w H Q
def OpF (X : Cx) (T : Tx) (F : Value → Value → Sem Value) (f : PV → PV → Mem → Option (List PV)) : Prop :=
  ∃ rd : R2, OpR X F rd ∧ ∀ {av : Av} {r : List Addr} {H : Hp} {m : Mem} {x y : PV} {z : List PV} {v w : V} {Q : VK}, RM T av r H m → RV T av r H x v → RV T av r H y w → f x y m = some z → KF T av r H Q z m → rd v w H Q
def oP {s : Type} (o : Option s) (m : Mem) : Res s := match o with
  | some z => .ok z m
  | none => .bad
theorem okR_oP {T : Tx} {av : Av} {r : List Addr} {H : Hp} {W : Value → Option Addr → Hp → Prop} {s : Type} {K : s → Mem → Prop} {o : Option s} {m : Mem} (h : okR T av r H W K (oP o m)) : ∃ z, o = some z ∧ K z m := by
  cases o with
  | none => exact h.elim
  | some z => exact ⟨z, rfl, h⟩
def mBin (f : PV → PV → Mem → Option PV) (ma mb : ME) : ME := fun e m => (ma e m).bind fun x m1 => (mb e m1).bind fun y m2 => oP (f x y m2) m2
def mBinF (f : PV → PV → Mem → Option (List PV)) (ma mb : ME) : MA := fun e m => (ma e m).bind fun x m1 => (mb e m1).bind fun y m2 => oP (f x y m2) m2
theorem se_bin {op : Operator} {f : PV → PV → Mem → Option PV} (ho : OpM X T (binaryOp op) f) (ha : SE X T W a ma) (hb : SE X T W b mb) : SE X T W (.BinOp a op b pos) (mBin f ma mb) := by
  obtain ⟨rd, h1, h2⟩ := ho
  exact ⟨PE.imp (pe_op h1 ha.pe hb.pe) fun σ H Q ⟨av, r, e, m, re, rm, h⟩ =>
    ⟨av, r, e, m, re, rm, okR_imp (okR_bind h) fun x m1 h r1 H1 v g1 rm1 rv =>
      ⟨av, r1, e, m1, re.grow g1, rm1, okR_grow g1 (fun y m2 h r2 H2 w g2 rm2 rw => by
        obtain ⟨z, hz, k⟩ := okR_oP h
        exact h2 rm2 (rv.grow g2) rw hz (KE.grow (g1.trans g2) k)) (okR_bind h)⟩⟩⟩
theorem sf_bin {op : Operator} {f : PV → PV → Mem → Option (List PV)} (ho : OpF X T (binaryOp op) f) (ha : SE X T W a ma) (hb : SE X T W b mb) : SF X T W (.BinOp a op b pos) (mBinF f ma mb) := by
  obtain ⟨rd, h1, h2⟩ := ho
  exact ⟨PE.imp (pe_op h1 ha.pe hb.pe) fun σ H Q ⟨av, r, e, m, re, rm, h⟩ =>
    ⟨av, r, e, m, re, rm, okR_imp (okR_bind h) fun x m1 h r1 H1 v g1 rm1 rv =>
      ⟨av, r1, e, m1, re.grow g1, rm1, okR_grow g1 (fun y m2 h r2 H2 w g2 rm2 rw => by
        obtain ⟨z, hz, k⟩ := okR_oP h
        exact h2 rm2 (rv.grow g2) rw hz (KF.grow (g1.trans g2) k)) (okR_bind h)⟩⟩⟩
theorem se_cmp {op : CmpOp} {f : PV → PV → Mem → Option PV} (ho : OpM X T (compareOp op) f) (ha : SE X T W a ma) (hb : SE X T W b mb) (hm : behindInMarks op b = false) : SE X T W (.Compare a [op] [b] pos) (mBin f ma mb) := by
  obtain ⟨rd, h1, h2⟩ := ho
  exact ⟨PE.imp (pe_cmpR h1 ha.pe hb.pe hm) fun σ H Q ⟨av, r, e, m, re, rm, h⟩ =>
    ⟨av, r, e, m, re, rm, okR_imp (okR_bind h) fun x m1 h r1 H1 v g1 rm1 rv =>
      ⟨av, r1, e, m1, re.grow g1, rm1, okR_grow g1 (fun y m2 h r2 H2 w g2 rm2 rw => by
        obtain ⟨z, hz, k⟩ := okR_oP h
        exact h2 rm2 (rv.grow g2) rw hz (KE.grow (g1.trans g2) k)) (okR_bind h)⟩⟩⟩
/-- by one of two -/
def orF {s : Type} (f g : PV → PV → Mem → Option s) : PV → PV → Mem → Option s := fun x y m => match f x y m with
  | some z => some z
  | none => g x y m
theorem OpM.or {F : Value → Value → Sem Value} {f g : PV → PV → Mem → Option PV} (h : OpM X T F f) (h' : OpM X T F g) : OpM X T F (orF f g) := by
  obtain ⟨r1, o1, k1⟩ := h
  obtain ⟨r2, o2, k2⟩ := h'
  refine ⟨_, o1.or o2, fun {av r H m x y z v w Q} rm rv rw e k => ?_⟩
  unfold orF at e
  split at e
  · rename_i z' hz
    exact .inl (k1 rm rv rw (hz.trans e) k)
  · exact .inr (k2 rm rv rw e k)
/-- two ints, under a test -/
def fI (c : Int → Int → Bool) (g : Int → Int → PV) : PV → PV → Mem → Option PV := fun x y _ => match x, y with
  | .int i, .int j => if c i j then some (g i j) else none
  | _, _ => none
theorem fI_some {c : Int → Int → Bool} {g : Int → Int → PV} {x y z : PV} {m : Mem} (h : fI c g x y m = some z) : ∃ i j, x = .int i ∧ y = .int j ∧ c i j = true ∧ z = g i j := by
  unfold fI at h
  split at h
  · rename_i i j
    split at h
    · rename_i hc
      exact ⟨i, j, rfl, rfl, hc, (Option.some.inj h).symm⟩
    · cases h
  · cases h
theorem opm_I {F : Value → Value → Sem Value} {C : Int → Int → Prop} {c : Int → Int → Bool} {g : Int → Int → V} {g' : Int → Int → PV} (ho : OpR X F (rI C g)) (hc : ∀ i j, c i j = true → C i j) (hg : ∀ i j av r H, RV T av r H (g' i j) (g i j)) : OpM X T F (fI c g') :=
  ⟨_, ho, fun {av r H m x y z v w Q} rm rv rw e k => by
    obtain ⟨i, j, rfl, rfl, hk, rfl⟩ := fI_some e
    exact ⟨i, j, rv.int', rw.int', hc i j hk, k r H _ .refl rm (hg _ _ _ _ _)⟩⟩
theorem opm_I0 {F : Value → Value → Sem Value} {g : Int → Int → V} {g' : Int → Int → PV} (ho : OpR X F (rI0 g)) (hg : ∀ i j av r H, RV T av r H (g' i j) (g i j)) : OpM X T F (fI (fun _ _ => true) g') :=
  ⟨_, ho, fun {av r H m x y z v w Q} rm rv rw e k => by
    obtain ⟨i, j, rfl, rfl, hk, rfl⟩ := fI_some e
    exact ⟨i, j, rv.int', rw.int', k r H _ .refl rm (hg _ _ _ _ _)⟩⟩
def fAddI := fI (fun _ _ => true) fun i j => .int (i + j)
def fSubI := fI (fun _ _ => true) fun i j => .int (i - j)
def small64 (i : Int) : Bool := decide (-(2 ^ 64) < i) && decide (i < 2 ^ 64)
def fMulI := fI (fun i j => small64 i || small64 j) fun i j => .int (i * j)
def fModI := fI (fun _ j => decide (0 < j)) fun i j => .int (i % j)
def fDivI := fI (fun _ j => decide (0 < j) && decide (j < 1073741824)) fun i j => .int (i / j)
theorem om_addI : OpM X T (binaryOp .Add) fAddI := opm_I0 op_add fun _ _ _ _ _ => rv_int
theorem om_subI : OpM X T (binaryOp .Sub) fSubI := opm_I0 op_sub fun _ _ _ _ _ => rv_int
theorem om_mulI : OpM X T (binaryOp .Mult) fMulI := opm_I op_mul (fun i j h => by
  simp only [small64, Bool.or_eq_true, Bool.and_eq_true, decide_eq_true_eq] at h
  exact h) fun _ _ _ _ _ => rv_int
theorem om_modI : OpM X T (binaryOp .Mod) fModI := opm_I op_mod (fun i j h => of_decide_eq_true h) fun _ _ _ _ _ => rv_int
theorem om_divI : OpM X T (binaryOp .FloorDiv) fDivI := opm_I op_fdiv (fun i j h => by
  simp only [Bool.and_eq_true, decide_eq_true_eq] at h
  exact h) fun _ _ _ _ _ => rv_int
def fLtI := fI (fun _ _ => true) fun i j => .bl (decide (i < j))
def fLeI := fI (fun _ _ => true) fun i j => .bl (decide (i ≤ j))
def fGtI := fI (fun _ _ => true) fun i j => .bl (decide (j < i))
def fGeI := fI (fun _ _ => true) fun i j => .bl (decide (j ≤ i))
theorem om_ltI : OpM X T (compareOp .Lt) fLtI := opm_I0 op_lt fun _ _ _ _ _ => rv_bl
theorem om_leI : OpM X T (compareOp .LtE) fLeI := opm_I0 op_le fun _ _ _ _ _ => rv_bl
theorem om_gtI : OpM X T (compareOp .Gt) fGtI := opm_I0 op_gt fun _ _ _ _ _ => rv_bl
theorem om_geI : OpM X T (compareOp .GtE) fGeI := opm_I0 op_ge fun _ _ _ _ _ => rv_bl
/-- tuple + tuple -/
def fCatT : PV → PV → Mem → Option PV := fun x y _ => match x, y with
  | .tup xs, .tup ys => if szOk (xs.length + ys.length) then some (.tup (xs ++ ys)) else none
  | _, _ => none
theorem RVs.append {av : Av} {r : List Addr} {H : Hp} : ∀ {xs ys : List PV} {vs ws : List V}, RVs T av r H xs vs → RVs T av r H ys ws → RVs T av r H (xs ++ ys) (vs ++ ws)
  | [], _, _, _, h, h' => by unfold RVs at h; subst h; exact h'
  | x :: xs, ys, _, _, h, h' => by
    unfold RVs at h
    obtain ⟨v, us, e, h1, h2⟩ := h
    subst e
    show RVs T av r H (x :: (xs ++ ys)) _
    unfold RVs
    exact ⟨v, _, rfl, h1, RVs.append h2 h'⟩
theorem om_catT (hK : X.K = T.K) : OpM X T (binaryOp .Add) fCatT := by
  refine ⟨_, op_catA, fun {av r H m x y z v w Q} rm rv rw e k => ?_⟩
  unfold fCatT at e
  split at e
  · rename_i xs ys
    split at e
    · rename_i hz
      cases e
      obtain ⟨a, vs, rfl, ha, hv⟩ := tup_ok hK rv
      obtain ⟨b, ws, rfl, hb, hw⟩ := tup_ok hK rw
      refine ⟨a, b, vs, ws, rfl, rfl, ha, hb, by rw [hv.length, hw.length]; exact szOk_le hz, fun z => ?_, fun _ z => ?_, fun z1 z2 p hp => ?_⟩
      · have e0 : xs = [] := List.eq_nil_of_length_eq_zero (by rw [← hv.length, z]; rfl)
        subst e0
        exact k r H _ .refl rm rw
      · have e0 : ys = [] := List.eq_nil_of_length_eq_zero (by rw [← hw.length, z]; rfl)
        subst e0
        exact k r H _ .refl rm (by rw [List.append_nil]; exact rv)
      · have g2 : Grow r H r (upd H p (.tup (vs ++ ws))) := grow_upd hp
        refine k r _ _ g2 (rm.pass hp) ?_
        unfold RV
        exact ⟨p, _, rfl, .inl ⟨⟨rm.freshA hp, rm.fresh hp⟩, upd_same⟩, (hv.append hw).grow g2⟩
    · cases e
  · cases e
/-- a new tuple, told -/
theorem rv_newT {av : Av} {r : List Addr} {H : Hp} {m : Mem} {p : Addr} {xs : List PV} {vs : List V} (rm : RM T av r H m) (hp : H p = none) (hv : RVs T av r H xs vs) : RV T av r (upd H p (.tup vs)) (.tup xs) (.ref p) := by
  unfold RV
  exact ⟨p, _, rfl, .inl ⟨⟨rm.freshA hp, rm.fresh hp⟩, upd_same⟩, hv.grow (grow_upd hp)⟩
theorem rv_newL {av : Av} {r : List Addr} {H : Hp} {m : Mem} {p : Addr} {xs : List PV} {vs : List V} (rm : RM T av r H m) (hp : H p = none) (hv : RVs T av r H xs vs) : RV T av r (upd H p (.lst vs)) (.lst xs) (.ref p) := by
  unfold RV
  exact ⟨p, _, rfl, ⟨rm.freshA hp, rm.fresh hp⟩, .inl upd_same, hv.grow (grow_upd hp)⟩
theorem kf_new {av : Av} {r : List Addr} {H : Hp} {m : Mem} {p : Addr} {xs : List PV} {vs : List V} {Q : VK} (rm : RM T av r H m) (hp : H p = none) (hv : RVs T av r H xs vs) (k : KF T av r H Q xs m) : Q (.ref p) (upd H p (.lst vs)) :=
  k r _ p vs (grow_upd hp) (soft hp) (rm.fresh hp) upd_same (rm.away hp) (hv.away hp)
theorem ke_newT {av : Av} {r : List Addr} {H : Hp} {m : Mem} {p : Addr} {xs : List PV} {vs : List V} {Q : VK} (rm : RM T av r H m) (hp : H p = none) (hv : RVs T av r H xs vs) (k : KE T av r H Q (.tup xs) m) : Q (.ref p) (upd H p (.tup vs)) :=
  k r _ _ (grow_upd hp) (rm.pass hp) (rv_newT rm hp hv)
/-- list + list -/
def fCatL : PV → PV → Mem → Option (List PV) := fun x y m => match lstOf x m, lstOf y m with
  | some xs, some ys => if szOk (xs.length + ys.length) then some (xs ++ ys) else none
  | _, _ => none
theorem lstR {pins : List (Addr × Obj)} {σ : L2.St} {H : Hp} {s : Shared} {l : Addr} {xs : List V} (I : Inv X pins σ H s) (h : Rd H l (.lst xs)) : xs.length ≤ sizeLine ∧ ∃ (its : List Value) (n : Nat), Vals xs its ∧ xs.length = its.length ∧ s.heap.get? l = some { cls := .type "list", data := .seq its.toArray n } := by
  obtain ⟨z, its, n, r, e⟩ := h.ok I.hok
  exact ⟨z, its, n, r, r.length, e⟩
def rCatL : R2 := fun x y H Q => ∃ l b xs zs, x = .ref l ∧ y = .ref b ∧ Rd H l (.lst xs) ∧ Rd H b (.lst zs) ∧ xs.length + zs.length ≤ sizeLine ∧ ∀ p, H p = none → Q (.ref p) (upd H p (.lst (xs ++ zs)))
theorem op_catL : OpR X (binaryOp .Add) rCatL := by
  intro pins s σ H x y v u Q I rx ry h
  obtain ⟨l, b, xs, zs, rfl, rfl, hH, hB, hz, q⟩ := h
  cases rx
  cases ry
  obtain ⟨z, its, n, r, hl, e⟩ := lstR I hH
  obtain ⟨z2, its2, n2, r2, hl2, e2⟩ := lstR I hB
  refine PySem.P.add_list e e2 ?_ (by rw [List.size_toArray, List.size_toArray]; omega)
  have ea : its.toArray ++ its2.toArray = (its ++ its2).toArray := by simp
  rw [ea]
  exact ⟨.ref _, _, I.lnew (t' := s.toks) (r.append r2) (by rw [List.length_append]; omega), rfl, q _ I.fresh⟩
theorem of_catL : OpF X T (binaryOp .Add) fCatL := by
  refine ⟨_, op_catL, fun {av r H m x y z v w Q} rm rv rw e k => ?_⟩
  unfold fCatL at e
  split at e
  · rename_i xs ys hx hy
    split at e
    · rename_i hz
      cases e
      obtain ⟨a, vs, rfl, ha, hv⟩ := lstOf_ok rm rv hx
      obtain ⟨b, ws, rfl, hb, hw⟩ := lstOf_ok rm rw hy
      exact ⟨a, b, vs, ws, rfl, rfl, ha, hb, by rw [hv.length, hw.length]; exact szOk_le hz, fun p hp => kf_new rm hp (hv.append hw) k⟩
    · cases e
  · cases e
/-- a new list is a plain value -/
def toL (f : PV → PV → Mem → Option (List PV)) : PV → PV → Mem → Option PV := fun x y m => match f x y m with
  | some xs => some (.lst xs)
  | none => none
theorem kf_ke {av : Av} {r : List Addr} {H : Hp} {m0 m : Mem} {Q : VK} {xs : List PV} (rm : RM T av r H m0) (k : KE T av r H Q (.lst xs) m) : KF T av r H Q xs m := fun r1 H1 p vs g1 hp np hl rm1 rvs =>
  k r1 H1 (.ref p) g1 rm1.near (by unfold RV; exact ⟨p, vs, rfl, ⟨rm.freshB hp, np⟩, .inl hl, rvs.near⟩)
theorem OpF.toM {F : Value → Value → Sem Value} {f : PV → PV → Mem → Option (List PV)} (h : OpF X T F f) : OpM X T F (toL f) := by
  obtain ⟨rd, o, k⟩ := h
  refine ⟨rd, o, fun {av r H m x y z v w Q} rm rv rw e q => ?_⟩
  unfold toL at e
  split at e
  · rename_i xs hx
    cases e
    exact k rm rv rw hx (kf_ke rm q)
  · cases e
/-- text + text -/
def fCatS : PV → PV → Mem → Option PV := fun x y _ => match x, y with
  | .str a, .str b => if szOk (a.length + b.length) then some (.str (a ++ b)) else none
  | _, _ => none
theorem om_catS : OpM X T (binaryOp .Add) fCatS := by
  refine ⟨_, op_add_str, fun {av r H m x y z v w Q} rm rv rw e k => ?_⟩
  unfold fCatS at e
  split at e
  · rename_i a b
    split at e
    · rename_i hz
      cases e
      exact ⟨a, b, rv.str', rw.str', szOk_le hz, k r H _ .refl rm rv_str⟩
    · cases e
  · cases e
/-- + of what comes -/
def fAdd := orF fAddI (orF fCatT (orF (toL fCatL) fCatS))
theorem om_add (hK : X.K = T.K) : OpM X T (binaryOp .Add) fAdd := om_addI.or ((om_catT hK).or (of_catL.toM.or om_catS))

/-! ### == and != of data -/
def sameAll (f : PV → Option PyData) : List PV → Option (List PyData)
  | [] => some []
  | x :: xs => match f x, sameAll f xs with
    | some d, some ds => some (d :: ds)
    | _, _ => none
mutual
def dat (m : Mem) : PV → Option PyData
  | .non => some .none
  | .bl b => some (.bool b)
  | .int i => some (.int i)
  | .str s => some (.str s)
  | .tup xs => match datAll m xs with
    | some ds => some (.tuple ds)
    | none => none
  | .lst xs => match datAll m xs with
    | some ds => some (.list ds)
    | none => none
  | _ => none
def datAll (m : Mem) : List PV → Option (List PyData)
  | [] => some []
  | x :: xs => match dat m x, datAll m xs with
    | some d, some ds => some (d :: ds)
    | _, _ => none
end
mutual
theorem dat_ok (hK : X.K = T.K) {av : Av} {r : List Addr} {H : Hp} {m : Mem} (rm : RM T av r H m) : ∀ (x : PV) {v : V} {d : PyData}, RV T av r H x v → dat m x = some d → Dp X.K H v d
  | .non, v, d, h, e => by unfold dat at e; cases e; rw [h.non']; exact .non
  | .bl b, v, d, h, e => by unfold dat at e; cases e; rw [h.bl']; exact .bl b
  | .int i, v, d, h, e => by unfold dat at e; cases e; rw [h.int']; exact .int i
  | .str s, v, d, h, e => by unfold dat at e; cases e; rw [h.str']; exact .str s
  | .tup xs, v, d, h, e => by
    unfold dat at e
    split at e
    · rename_i ds hd
      cases e
      obtain ⟨a, vs, rfl, ha, hv⟩ := tup_ok hK h
      exact .tup ha (datAll_ok hK rm xs hv hd)
    · cases e
  | .lst xs, v, d, h, e => by
    unfold dat at e
    split at e
    · rename_i ds hd
      cases e
      unfold RV at h
      obtain ⟨a, vs, rfl, _, ha, hv⟩ := h
      exact .lst (.inl ha) (datAll_ok hK rm xs hv hd)
    · cases e
  | .ins _ _, v, d, h, e => by unfold dat at e; cases e
  | .dtt _ _, v, d, h, e => by unfold dat at e; cases e
  | .dct _ _, v, d, h, e => by unfold dat at e; cases e
  | .glo _, v, d, h, e => by unfold dat at e; cases e
  | .ref _, v, d, h, e => by unfold dat at e; cases e
  | .exn _ _, v, d, h, e => by unfold dat at e; cases e
  | .kst _, v, d, h, e => by unfold dat at e; cases e
theorem datAll_ok (hK : X.K = T.K) {av : Av} {r : List Addr} {H : Hp} {m : Mem} (rm : RM T av r H m) : ∀ (xs : List PV) {vs : List V} {ds : List PyData}, RVs T av r H xs vs → datAll m xs = some ds → DpAll X.K H vs ds
  | [], vs, ds, h, e => by
    unfold datAll at e
    unfold RVs at h
    cases e
    rw [h]
    exact .nil
  | x :: xs, vs, ds, h, e => by
    unfold datAll at e
    unfold RVs at h
    obtain ⟨v, ws, rfl, h1, h2⟩ := h
    split at e
    · rename_i d ds' hd hds
      cases e
      exact .cons (dat_ok hK rm x h1 hd) (datAll_ok hK rm xs h2 hds)
    · cases e
end
/-- a list of the memory, too -/
def datM (m : Mem) : PV → Option PyData
  | .ref i => match m[i]? with
    | some (.lst xs) => match datAll m xs with
      | some ds => some (.list ds)
      | none => none
    | _ => none
  | x => dat m x
theorem datM_ok (hK : X.K = T.K) {av : Av} {r : List Addr} {H : Hp} {m : Mem} (rm : RM T av r H m) {x : PV} {v : V} {d : PyData} (h : RV T av r H x v) (e : datM m x = some d) : Dp X.K H v d := by
  unfold datM at e
  split at e
  · rename_i i
    split at e
    · rename_i xs hx
      split at e
      · rename_i ds hd
        cases e
        unfold RV at h
        obtain ⟨a, h1, rfl⟩ := h
        obtain ⟨vs, h2, h3⟩ := rm.ob i _ a hx h1
        exact .lst (.inl (.inl h2)) (datAll_ok hK rm xs h3 hd)
      · cases e
    · cases e
  · exact dat_ok hK rm x h e
def fEqD : PV → PV → Mem → Option PV := fun x y m => match datM m x, datM m y with
  | some d, some e => if SeqAt.shaped d && SeqAt.shaped e then some (.bl (PyData.eqv d e)) else none
  | _, _ => none
def fNeD : PV → PV → Mem → Option PV := fun x y m => match datM m x, datM m y with
  | some d, some e => if SeqAt.shaped d && SeqAt.shaped e then some (.bl (!PyData.eqv d e)) else none
  | _, _ => none
theorem om_eqD (hK : X.K = T.K) (hu : X.A.units + 64 < cLine) : OpM X T (compareOp .Eq) fEqD := by
  refine ⟨_, op_eqD hu, fun {av r H m x y z v w Q} rm rv rw e k => ?_⟩
  unfold fEqD at e
  split at e
  · rename_i d1 d2 h1 h2
    split at e
    · rename_i hs
      cases e
      rw [Bool.and_eq_true] at hs
      exact ⟨d1, d2, datM_ok hK rm rv h1, datM_ok hK rm rw h2, hs.1, hs.2, k r H _ .refl rm rv_bl⟩
    · cases e
  · cases e
theorem om_neD (hK : X.K = T.K) (hu : X.A.units + 64 < cLine) : OpM X T (compareOp .NotEq) fNeD := by
  refine ⟨_, op_neD hu, fun {av r H m x y z v w Q} rm rv rw e k => ?_⟩
  unfold fNeD at e
  split at e
  · rename_i d1 d2 h1 h2
    split at e
    · rename_i hs
      cases e
      rw [Bool.and_eq_true] at hs
      exact ⟨d1, d2, datM_ok hK rm rv h1, datM_ok hK rm rw h2, hs.1, hs.2, k r H _ .refl rm rv_bl⟩
    · cases e
  · cases e
end M

namespace M
open PySem PySem.Spec PyProof.Rows L2
variable {X : Cx} {T : Tx} {W : WX} {a b c : Expr} {ma mb mc : ME} {mt mu : MT} {pos : Pos}

/-! ### tests -/
def mTb (me : ME) : MT := fun e m => (me e m).bind fun v m1 => match v with
  | .bl b => .ok b m1
  | _ => .bad
theorem okR_tb {T : Tx} {av : Av} {r : List Addr} {H : Hp} {W : Value → Option Addr → Hp → Prop} {K : Bool → Mem → Prop} {v : PV} {m : Mem} (h : okR T av r H W K (match v with
  | .bl b => .ok b m
  | _ => .bad : Res Bool)) : ∃ b, v = .bl b ∧ K b m := by
  split at h
  · exact ⟨_, rfl, h⟩
  · exact h.elim
theorem st_val (ha : SE X T W a ma) (he : ∀ whole, isTrue a X.env whole = (do let v ← whole; standAt a.pos; holding [v] (truthy v)) := by intro _; rfl) : ST X T W a (mTb ma) :=
  ⟨PT.imp (pt_val ha.pe he) fun σ H Q ⟨av, r, e, m, re, rm, h⟩ =>
    ⟨av, r, e, m, re, rm, okR_imp (okR_bind h) fun x m1 h r1 H1 v g1 rm1 rv => by
      obtain ⟨b, rfl, k⟩ := okR_tb h
      exact ⟨b, rv.bl', k r1 H1 g1 rm1⟩⟩⟩
theorem st_cmp {op : CmpOp} {f : PV → PV → Mem → Option PV} (ho : OpM X T (compareOp op) f) (ha : SE X T W a ma) (hb : SE X T W b mb) (hm : behindInMarks op b = false) : ST X T W (.Compare a [op] [b] pos) (mTb (mBin f ma mb)) := by
  obtain ⟨rd, h1, h2⟩ := ho
  exact ⟨PT.imp (pt_cmpR h1 ha.pe hb.pe hm) fun σ H Q ⟨av, r, e, m, re, rm, h⟩ =>
    ⟨av, r, e, m, re, rm, okR_imp (okR_bind (okR_bind h)) fun x m1 h r1 H1 v g1 rm1 rv =>
      ⟨av, r1, e, m1, re.grow g1, rm1, okR_grow g1 (fun y m2 h r2 H2 w g2 rm2 rw => by
        obtain ⟨z, hz, k⟩ := okR_oP h
        refine h2 rm2 (rv.grow g2) rw hz fun r3 H3 w3 g3 rm3 rw3 => ?_
        obtain ⟨b, rfl, k⟩ := okR_tb k
        exact ⟨b, rw3.bl', k r3 H3 ((g1.trans g2).trans g3) rm3⟩) (okR_bind h)⟩⟩⟩
def mAndT (t u : MT) : MT := fun e m => (t e m).bind fun b m1 => if b then u e m1 else .ok false m1
def mOrT (t u : MT) : MT := fun e m => (t e m).bind fun b m1 => if b then .ok true m1 else u e m1
def mNotT (t : MT) : MT := fun e m => (t e m).bind fun b m1 => .ok (!b) m1
theorem sw_and1 (ha : ST X T W a mt) : SW X T W (.BoolOp .And [a] pos) mt := ⟨pw_and1 ha.pt⟩
theorem sw_or1 (ha : ST X T W a mt) : SW X T W (.BoolOp .Or [a] pos) mt := ⟨pw_or1 ha.pt⟩
theorem sw_and {rest : List Expr} (ha : ST X T W a mt) (hb : SW X T W (.BoolOp .And (b :: rest) pos) mu) : SW X T W (.BoolOp .And (a :: b :: rest) pos) (mAndT mt mu) :=
  ⟨PW.imp (pw_and ha.pt hb.pw) fun σ H Q ⟨av, r, e, m, re, rm, h⟩ =>
    ⟨av, r, e, m, re, rm, okR_imp (okR_bind h) fun x m1 h r1 H1 g1 rm1 => by
      cases x with
      | true => exact iteT ⟨av, r1, e, m1, re.grow g1, rm1, okR_grow g1 (fun _ _ k => k.grow g1) h⟩
      | false => exact iteF (h r1 H1 g1 rm1)⟩⟩
theorem sw_or {rest : List Expr} (ha : ST X T W a mt) (hb : SW X T W (.BoolOp .Or (b :: rest) pos) mu) : SW X T W (.BoolOp .Or (a :: b :: rest) pos) (mOrT mt mu) :=
  ⟨PW.imp (pw_or ha.pt hb.pw) fun σ H Q ⟨av, r, e, m, re, rm, h⟩ =>
    ⟨av, r, e, m, re, rm, okR_imp (okR_bind h) fun x m1 h r1 H1 g1 rm1 => by
      cases x with
      | true => exact iteT (h r1 H1 g1 rm1)
      | false => exact iteF ⟨av, r1, e, m1, re.grow g1, rm1, okR_grow g1 (fun _ _ k => k.grow g1) h⟩⟩⟩
theorem SW.t (h : SW X T W a mt) : ST X T W a mt := ⟨h.pw.pt⟩
theorem st_not (ha : ST X T W a mt) : ST X T W (.UnaryOp .Not a pos) (mNotT mt) :=
  ⟨PT.imp (pt_not ha.pt) fun σ H Q ⟨av, r, e, m, re, rm, h⟩ =>
    ⟨av, r, e, m, re, rm, okR_imp (okR_bind h) fun x m1 h r1 H1 g1 rm1 => h r1 H1 g1 rm1⟩⟩
/-- and, or, not as values -/
def mAndV (ma mb : ME) : ME := fun e m => (mTb ma e m).bind fun b m1 => if b then mb e m1 else .ok (.bl false) m1
def mOrV (ma mb : ME) : ME := fun e m => (mTb ma e m).bind fun b m1 => if b then .ok (.bl true) m1 else mb e m1
def mNotV (ma : ME) : ME := fun e m => (mTb ma e m).bind fun b m1 => .ok (.bl (!b)) m1
theorem se_one {op} (h : SE X T W a ma) : SE X T W (.BoolOp op [a] pos) ma := ⟨pe_one h.pe⟩
theorem se_and {rest : List Expr} (ha : SE X T W a ma) (hb : SE X T W (.BoolOp .And (b :: rest) pos) mb) : SE X T W (.BoolOp .And (a :: b :: rest) pos) (mAndV ma mb) :=
  ⟨PE.imp (pe_and ha.pe hb.pe) fun σ H Q ⟨av, r, e, m, re, rm, h⟩ =>
    ⟨av, r, e, m, re, rm, okR_imp (okR_bind (okR_bind h)) fun x m1 h r1 H1 v g1 rm1 rv => by
      obtain ⟨b, rfl, k⟩ := okR_tb h
      refine ⟨b, rv.bl', ?_⟩
      cases b with
      | true => exact iteT ⟨av, r1, e, m1, re.grow g1, rm1, okR_grow g1 (fun _ _ k => k.grow g1) k⟩
      | false => exact iteF (k r1 H1 _ g1 rm1 rv_bl)⟩⟩
theorem se_or {rest : List Expr} (ha : SE X T W a ma) (hb : SE X T W (.BoolOp .Or (b :: rest) pos) mb) : SE X T W (.BoolOp .Or (a :: b :: rest) pos) (mOrV ma mb) :=
  ⟨PE.imp (pe_or ha.pe hb.pe) fun σ H Q ⟨av, r, e, m, re, rm, h⟩ =>
    ⟨av, r, e, m, re, rm, okR_imp (okR_bind (okR_bind h)) fun x m1 h r1 H1 v g1 rm1 rv => by
      obtain ⟨b, rfl, k⟩ := okR_tb h
      refine ⟨b, rv.bl', ?_⟩
      cases b with
      | true => exact iteT (k r1 H1 _ g1 rm1 rv_bl)
      | false => exact iteF ⟨av, r1, e, m1, re.grow g1, rm1, okR_grow g1 (fun _ _ k => k.grow g1) k⟩⟩⟩
theorem se_not (ha : SE X T W a ma) : SE X T W (.UnaryOp .Not a pos) (mNotV ma) :=
  ⟨PE.imp (pe_not ha.pe) fun σ H Q ⟨av, r, e, m, re, rm, h⟩ =>
    ⟨av, r, e, m, re, rm, okR_imp (okR_bind (okR_bind h)) fun x m1 h r1 H1 v g1 rm1 rv => by
      obtain ⟨b, rfl, k⟩ := okR_tb h
      exact ⟨b, rv.bl', k r1 H1 _ g1 rm1 rv_bl⟩⟩⟩
def mIf (t : MT) (ma mb : ME) : ME := fun e m => (t e m).bind fun b m1 => if b then ma e m1 else mb e m1
theorem se_if (hc : ST X T W c mt) (ha : SE X T W a ma) (hb : SE X T W b mb) : SE X T W (.IfExp c a b pos) (mIf mt ma mb) :=
  ⟨PE.imp (pe_ifExp hc.pt ha.pe hb.pe) fun σ H Q ⟨av, r, e, m, re, rm, h⟩ =>
    ⟨av, r, e, m, re, rm, okR_imp (okR_bind h) fun x m1 h r1 H1 g1 rm1 => by
      cases x with
      | true => exact iteT ⟨av, r1, e, m1, re.grow g1, rm1, okR_grow g1 (fun _ _ k => k.grow g1) h⟩
      | false => exact iteF ⟨av, r1, e, m1, re.grow g1, rm1, okR_grow g1 (fun _ _ k => k.grow g1) h⟩⟩⟩
/-- a op b op' c -/
def mChain (f g : PV → PV → Mem → Option PV) (ma mb mc : ME) : ME := fun e m => (ma e m).bind fun x m1 => (mb e m1).bind fun y m2 => (oP (f x y m2) m2).bind fun z m3 => match z with
  | .bl true => (mc e m3).bind fun w m4 => oP (g y w m4) m4
  | .bl false => .ok (.bl false) m3
  | _ => .bad
theorem chain_imp {op op' : CmpOp} {f g : PV → PV → Mem → Option PV} {rd rd' : R2}
    (k1 : ∀ {av : Av} {r : List Addr} {H : Hp} {m : Mem} {x y z : PV} {v w : V} {Q : VK}, RM T av r H m → RV T av r H x v → RV T av r H y w → f x y m = some z → KE T av r H Q z m → rd v w H Q)
    (k2 : ∀ {av : Av} {r : List Addr} {H : Hp} {m : Mem} {x y z : PV} {v w : V} {Q : VK}, RM T av r H m → RV T av r H x v → RV T av r H y w → g x y m = some z → KE T av r H Q z m → rd' v w H Q)
    {σ : L2.St} {H : Hp} {Q : VK} (h : tE T W (mChain f g ma mb mc) σ H Q) : tChain rd rd' (tE T W ma) (tE T W mb) (tE T W mc) σ H Q := by
  obtain ⟨av, r, e, m, re, rm, h⟩ := h
  refine ⟨av, r, e, m, re, rm, okR_imp (okR_bind h) fun x m1 h r1 H1 v g1 rm1 rv => ⟨av, r1, e, m1, re.grow g1, rm1, okR_grow g1 (fun y m2 h r2 H2 w g2 rm2 rw => ?_) (okR_bind h)⟩⟩
  obtain ⟨z, hz, k⟩ := okR_oP (okR_bind h)
  refine k1 rm2 (rv.grow g2) rw hz fun r3 H3 w3 g3 rm3 rw3 => ?_
  have g13 := (g1.trans g2).trans g3
  split at k
  · refine ⟨true, rw3.bl', iteT ⟨av, r3, e, m2, re.grow g13, rm3, okR_grow g13 (fun y' m4 h r4 H4 w4 g4 rm4 rw4 => ?_) (okR_bind k)⟩⟩
    obtain ⟨z, hz, k⟩ := okR_oP h
    exact k2 rm4 (rw.grow (g3.trans g4)) rw4 hz (k.grow (g13.trans g4))
  · exact ⟨false, rw3.bl', iteF (k r3 H3 _ g13 rm3 rv_bl)⟩
  · exact k.elim
theorem se_chain {op op' : CmpOp} {f g : PV → PV → Mem → Option PV} (ho : OpM X T (compareOp op) f) (ho' : OpM X T (compareOp op') g) (ha : SE X T W a ma) (hb : SE X T W b mb) (hc : SE X T W c mc)
    (hm : lastMarks [op, op'] [b, c] = false := by with_unfolding_all rfl) : SE X T W (.Compare a [op, op'] [b, c] pos) (mChain f g ma mb mc) := by
  obtain ⟨rd, h1, k1⟩ := ho
  obtain ⟨rd', h2, k2⟩ := ho'
  exact ⟨PE.imp (pe_chain h1 h2 ha.pe hb.pe hc.pe hm) fun σ H Q h => chain_imp (op := op) (op' := op') k1 k2 h⟩
theorem st_chain {op op' : CmpOp} {f g : PV → PV → Mem → Option PV} (ho : OpM X T (compareOp op) f) (ho' : OpM X T (compareOp op') g) (ha : SE X T W a ma) (hb : SE X T W b mb) (hc : SE X T W c mc)
    (hm : lastMarks [op, op'] [b, c] = false := by with_unfolding_all rfl) : ST X T W (.Compare a [op, op'] [b, c] pos) (mTb (mChain f g ma mb mc)) := by
  obtain ⟨rd, h1, k1⟩ := ho
  obtain ⟨rd', h2, k2⟩ := ho'
  refine ⟨PT.imp (pt_chain h1 h2 ha.pe hb.pe hc.pe hm) fun σ H Q ⟨av, r, e, m, re, rm, h⟩ => chain_imp (op := op) (op' := op') k1 k2 ⟨av, r, e, m, re, rm, okR_imp (okR_bind h) fun x m1 h r1 H1 v g1 rm1 rv => ?_⟩⟩
  obtain ⟨b, rfl, k⟩ := okR_tb h
  exact ⟨b, rv.bl', k r1 H1 g1 rm1⟩

/-! ### calls of built-ins -/
def ClM (X : Cx) (T : Tx) (fv : Value) (f : List PV → Mem → Option PV) : Prop :=
  ∃ rd : List V → Hp → VK → Prop, CallR X fv rd ∧ ∀ {av : Av} {r : List Addr} {H : Hp} {m : Mem} {xs : List PV} {z : PV} {vs : List V} {Q : VK}, RM T av r H m → RVs T av r H xs vs → f xs m = some z → KE T av r H Q z m → rd vs H Q
def ClF (X : Cx) (T : Tx) (fv : Value) (f : List PV → Mem → Option (List PV)) : Prop :=
  ∃ rd : List V → Hp → VK → Prop, CallR X fv rd ∧ ∀ {av : Av} {r : List Addr} {H : Hp} {m : Mem} {xs : List PV} {z : List PV} {vs : List V} {Q : VK}, RM T av r H m → RVs T av r H xs vs → f xs m = some z → KF T av r H Q z m → rd vs H Q
def mCl {s : Type} (f : List PV → Mem → Option s) (mr : MA) : Env → Mem → Res s := fun e m => (mr e m).bind fun xs m1 => oP (f xs m1) m1
section
variable {x : Str} {p : Pos} {es : List Expr} {mr : MA} {id Ty : String}
theorem se_callB {f : List PV → Mem → Option PV} (hc : ClM X T (.builtin id) f) (hg : Gl X x) (hm : X.mg x = none) (hv : bootBuiltins x = some (.builtin id)) (ha : SA X T W (a :: es) mr) (hn : x ≠ "__name__" := by decide) (hdb : (x == ("__debug__" : Str)) = false := by decide)
    (he : starEach (a :: es) X.env = (false, eval a X.env) :: starEach es X.env := by rfl) (hpl : (backTo pos (starEach es X.env)).any (·.1) = false := by rfl) : SE X T W (.Call (.Name x p) (a :: es) [] pos) (mCl f mr) := by
  obtain ⟨rd, h1, h2⟩ := hc
  exact ⟨PE.imp (pe_callB h1 hg hm hv ha.pa hn hdb he hpl) fun σ H Q ⟨av, r, e, m, re, rm, h⟩ =>
    ⟨av, r, e, m, re, rm, okR_imp (okR_bind h) fun xs m1 h r1 H1 vs g1 rm1 rvs => by
      obtain ⟨z, hz, k⟩ := okR_oP h
      exact h2 rm1 rvs hz (k.grow g1)⟩⟩
theorem sf_callB {f : List PV → Mem → Option (List PV)} (hc : ClF X T (.builtin id) f) (hg : Gl X x) (hm : X.mg x = none) (hv : bootBuiltins x = some (.builtin id)) (ha : SA X T W (a :: es) mr) (hn : x ≠ "__name__" := by decide) (hdb : (x == ("__debug__" : Str)) = false := by decide)
    (he : starEach (a :: es) X.env = (false, eval a X.env) :: starEach es X.env := by rfl) (hpl : (backTo pos (starEach es X.env)).any (·.1) = false := by rfl) : SF X T W (.Call (.Name x p) (a :: es) [] pos) (mCl f mr) := by
  obtain ⟨rd, h1, h2⟩ := hc
  exact ⟨PE.imp (pe_callB h1 hg hm hv ha.pa hn hdb he hpl) fun σ H Q ⟨av, r, e, m, re, rm, h⟩ =>
    ⟨av, r, e, m, re, rm, okR_imp (okR_bind h) fun xs m1 h r1 H1 vs g1 rm1 rvs => by
      obtain ⟨z, hz, k⟩ := okR_oP h
      exact h2 rm1 rvs hz (k.grow g1)⟩⟩
theorem se_callTy {f : List PV → Mem → Option PV} (hc : ClM X T (.type Ty) f) (hg : Gl X x) (hm : X.mg x = none) (hv : bootBuiltins x = some (.type Ty)) (ha : SA X T W (a :: es) mr) (hn : x ≠ "__name__" := by decide) (hdb : (x == ("__debug__" : Str)) = false := by decide)
    (he : starEach (a :: es) X.env = (false, eval a X.env) :: starEach es X.env := by rfl) (hpl : (backTo pos (starEach es X.env)).any (·.1) = false := by rfl) : SE X T W (.Call (.Name x p) (a :: es) [] pos) (mCl f mr) := by
  obtain ⟨rd, h1, h2⟩ := hc
  exact ⟨PE.imp (pe_callTy h1 hg hm hv ha.pa hn hdb he hpl) fun σ H Q ⟨av, r, e, m, re, rm, h⟩ =>
    ⟨av, r, e, m, re, rm, okR_imp (okR_bind h) fun xs m1 h r1 H1 vs g1 rm1 rvs => by
      obtain ⟨z, hz, k⟩ := okR_oP h
      exact h2 rm1 rvs hz (k.grow g1)⟩⟩
theorem sf_callTy {f : List PV → Mem → Option (List PV)} (hc : ClF X T (.type Ty) f) (hg : Gl X x) (hm : X.mg x = none) (hv : bootBuiltins x = some (.type Ty)) (ha : SA X T W (a :: es) mr) (hn : x ≠ "__name__" := by decide) (hdb : (x == ("__debug__" : Str)) = false := by decide)
    (he : starEach (a :: es) X.env = (false, eval a X.env) :: starEach es X.env := by rfl) (hpl : (backTo pos (starEach es X.env)).any (·.1) = false := by rfl) : SF X T W (.Call (.Name x p) (a :: es) [] pos) (mCl f mr) := by
  obtain ⟨rd, h1, h2⟩ := hc
  exact ⟨PE.imp (pe_callTy h1 hg hm hv ha.pa hn hdb he hpl) fun σ H Q ⟨av, r, e, m, re, rm, h⟩ =>
    ⟨av, r, e, m, re, rm, okR_imp (okR_bind h) fun xs m1 h r1 H1 vs g1 rm1 rvs => by
      obtain ⟨z, hz, k⟩ := okR_oP h
      exact h2 rm1 rvs hz (k.grow g1)⟩⟩
end
theorem rvs1 {av : Av} {r : List Addr} {H : Hp} {x : PV} {vs : List V} (h : RVs T av r H [x] vs) : ∃ v, vs = [v] ∧ RV T av r H x v := by
  unfold RVs at h
  obtain ⟨v, ws, e, h1, h2⟩ := h
  unfold RVs at h2
  subst h2
  exact ⟨v, e, h1⟩
theorem rvs2 {av : Av} {r : List Addr} {H : Hp} {x y : PV} {vs : List V} (h : RVs T av r H [x, y] vs) : ∃ v w, vs = [v, w] ∧ RV T av r H x v ∧ RV T av r H y w := by
  unfold RVs at h
  obtain ⟨v, ws, e, h1, h2⟩ := h
  obtain ⟨w, rfl, h3⟩ := rvs1 h2
  exact ⟨v, w, e, h1, h3⟩
theorem rvs_ints {av : Av} {r : List Addr} {H : Hp} : ∀ {ns : List Int} {vs : List V}, RVs T av r H (ns.map PV.int) vs → vs = ns.map V.int
  | [], _, h => by unfold RVs at h; rw [h]; rfl
  | n :: ns, _, h => by
    rw [List.map_cons] at h
    unfold RVs at h
    obtain ⟨v, ws, rfl, h1, h2⟩ := h
    rw [h1.int', rvs_ints h2]; rfl
theorem rvs_bls {av : Av} {r : List Addr} {H : Hp} : ∀ {ns : List Bool} {vs : List V}, RVs T av r H (ns.map PV.bl) vs → vs = ns.map V.bl
  | [], _, h => by unfold RVs at h; rw [h]; rfl
  | n :: ns, _, h => by
    rw [List.map_cons] at h
    unfold RVs at h
    obtain ⟨v, ws, rfl, h1, h2⟩ := h
    rw [h1.bl', rvs_bls h2]; rfl
def intsOf : List PV → Option (List Int)
  | [] => some []
  | .int i :: xs => match intsOf xs with
    | some ns => some (i :: ns)
    | none => none
  | _ => none
def blsOf : List PV → Option (List Bool)
  | [] => some []
  | .bl i :: xs => match blsOf xs with
    | some ns => some (i :: ns)
    | none => none
  | _ => none
theorem intsOf_eq : ∀ {xs : List PV} {ns : List Int}, intsOf xs = some ns → xs = ns.map PV.int
  | [], _, h => by cases h; rfl
  | x :: xs, ns, h => by
    unfold intsOf at h
    split at h
    · rename_i heq
      cases heq
    · rename_i i ys e
      cases e
      split at h
      · rename_i ms hm
        cases h
        rw [intsOf_eq hm]; rfl
      · cases h
    · cases h
theorem blsOf_eq : ∀ {xs : List PV} {ns : List Bool}, blsOf xs = some ns → xs = ns.map PV.bl
  | [], _, h => by cases h; rfl
  | x :: xs, ns, h => by
    unfold blsOf at h
    split at h
    · rename_i heq
      cases heq
    · rename_i i ys e
      cases e
      split at h
      · rename_i ms hm
        cases h
        rw [blsOf_eq hm]; rfl
      · cases h
    · cases h
/-- abs, int, max, min -/
def cAbs : List PV → Mem → Option PV
  | [.int i], _ => some (.int (if i < 0 then -i else i))
  | _, _ => none
theorem cm_abs : ClM X T (.builtin "abs") cAbs := by
  refine ⟨_, call_abs, fun {av r H m xs z vs Q} rm rv e k => ?_⟩
  unfold cAbs at e
  split at e
  · cases e
    obtain ⟨v, rfl, h⟩ := rvs1 rv
    exact ⟨_, by rw [h.int'], k r H _ .refl rm rv_int⟩
  · cases e
def cInt : List PV → Mem → Option PV
  | [.int i], _ => some (.int i)
  | [.bl b], _ => some (.int (if b then 1 else 0))
  | _, _ => none
theorem cm_int : ClM X T (.type "int") cInt := by
  refine ⟨_, call_int1, fun {av r H m xs z vs Q} rm rv e k => ?_⟩
  unfold cInt at e
  split at e
  · cases e
    obtain ⟨v, rfl, h⟩ := rvs1 rv
    exact .inl ⟨_, by rw [h.int'], k r H _ .refl rm rv_int⟩
  · cases e
    obtain ⟨v, rfl, h⟩ := rvs1 rv
    exact .inr ⟨_, by rw [h.bl'], k r H _ .refl rm rv_int⟩
  · cases e
def cMax2 : List PV → Mem → Option PV
  | [.int i, .int j], _ => some (.int (if j > i then j else i))
  | _, _ => none
def cMin2 : List PV → Mem → Option PV
  | [.int i, .int j], _ => some (.int (if j < i then j else i))
  | _, _ => none
theorem cm_max2 (hc : X.calm = true) : ClM X T (.builtin "max") cMax2 := by
  refine ⟨_, call_max2 hc, fun {av r H m xs z vs Q} rm rv e k => ?_⟩
  unfold cMax2 at e
  split at e
  · cases e
    obtain ⟨v, w, rfl, h1, h2⟩ := rvs2 rv
    exact ⟨_, _, by rw [h1.int', h2.int'], k r H _ .refl rm rv_int⟩
  · cases e
theorem cm_min2 (hc : X.calm = true) : ClM X T (.builtin "min") cMin2 := by
  refine ⟨_, call_min2 hc, fun {av r H m xs z vs Q} rm rv e k => ?_⟩
  unfold cMin2 at e
  split at e
  · cases e
    obtain ⟨v, w, rfl, h1, h2⟩ := rvs2 rv
    exact ⟨_, _, by rw [h1.int', h2.int'], k r H _ .refl rm rv_int⟩
  · cases e
/-- len of lists, tuples -/
def cLen : List PV → Mem → Option PV
  | [.tup xs], _ => some (.int xs.length)
  | [.kst xs], _ => some (.int xs.length)
  | [x], m => match lstOf x m with
    | some xs => some (.int xs.length)
    | none => none
  | _, _ => none
theorem cm_len (hK : X.K = T.K) : ClM X T (.builtin "len") cLen := by
  refine ⟨_, call_len_seq, fun {av r H m xs z vs Q} rm rv e k => ?_⟩
  unfold cLen at e
  split at e
  · cases e
    obtain ⟨v, rfl, h⟩ := rvs1 rv
    obtain ⟨a, vs, rfl, ha, hv⟩ := tup_ok hK h
    exact ⟨a, vs, rfl, .inr ha, k r H _ .refl rm (by rw [hv.length]; exact rv_int)⟩
  · cases e
    obtain ⟨v, rfl, h⟩ := rvs1 rv
    obtain ⟨a, vs, rfl, ha, hv⟩ := kst_ok hK h
    exact ⟨a, vs, rfl, .inl ha, k r H _ .refl rm (by rw [hv.length]; exact rv_int)⟩
  · split at e
    · rename_i ys hy
      cases e
      obtain ⟨v, rfl, h⟩ := rvs1 rv
      obtain ⟨a, vs, rfl, ha, hv⟩ := lstOf_ok rm h hy
      exact ⟨a, vs, rfl, .inl (.inl ha), k r H _ .refl rm (by rw [hv.length]; exact rv_int)⟩
    · cases e
  · cases e
/-- all, any -/
def cAll : List PV → Mem → Option PV
  | [x], m => match lstOf x m with
    | some xs => match blsOf xs with
      | some bs => some (.bl (bs.all id))
      | none => none
    | none => none
  | _, _ => none
def cAny : List PV → Mem → Option PV
  | [x], m => match lstOf x m with
    | some xs => match blsOf xs with
      | some bs => some (.bl (bs.any id))
      | none => none
    | none => none
  | _, _ => none
theorem cm_all (hc : X.calm = true) : ClM X T (.builtin "all") cAll := by
  refine ⟨_, cr_all hc, fun {av r H m xs z vs Q} rm rv e k => ?_⟩
  unfold cAll at e
  split at e
  · split at e
    · rename_i xs hx
      split at e
      · rename_i bs hb
        cases e
        obtain ⟨v, rfl, h⟩ := rvs1 rv
        obtain ⟨a, vs, rfl, ha, hv⟩ := lstOf_ok rm h hx
        rw [blsOf_eq hb] at hv
        rw [rvs_bls hv] at ha
        exact ⟨a, bs, rfl, .inl ha, k r H _ .refl rm rv_bl⟩
      · cases e
    · cases e
  · cases e
theorem cm_any (hc : X.calm = true) : ClM X T (.builtin "any") cAny := by
  refine ⟨_, cr_any hc, fun {av r H m xs z vs Q} rm rv e k => ?_⟩
  unfold cAny at e
  split at e
  · split at e
    · rename_i xs hx
      split at e
      · rename_i bs hb
        cases e
        obtain ⟨v, rfl, h⟩ := rvs1 rv
        obtain ⟨a, vs, rfl, ha, hv⟩ := lstOf_ok rm h hx
        rw [blsOf_eq hb] at hv
        rw [rvs_bls hv] at ha
        exact ⟨a, bs, rfl, .inl ha, k r H _ .refl rm rv_bl⟩
      · cases e
    · cases e
  · cases e
/-- tuple(..), list(..) -/
def cTuple : List PV → Mem → Option PV
  | [.tup xs], _ => some (.tup xs)
  | [x], m => match lstOf x m with
    | some xs => some (.tup xs)
    | none => none
  | _, _ => none
theorem cm_tuple (hK : X.K = T.K) : ClM X T (.type "tuple") cTuple := by
  refine ⟨_, call_tuple_of, fun {av r H m xs z vs Q} rm rv e k => ?_⟩
  unfold cTuple at e
  split at e
  · cases e
    obtain ⟨v, rfl, h⟩ := rvs1 rv
    have h0 := h
    obtain ⟨a, vs, rfl, ha, hv⟩ := tup_ok hK h
    exact ⟨a, vs, rfl, .inr ⟨ha, k r H _ .refl rm h0⟩⟩
  · split at e
    · rename_i ys hy
      cases e
      obtain ⟨v, rfl, h⟩ := rvs1 rv
      obtain ⟨a, vs, rfl, ha, hv⟩ := lstOf_ok rm h hy
      exact ⟨a, vs, rfl, .inl ⟨.inl ha, fun p hp => ke_newT rm hp hv k⟩⟩
    · cases e
  · cases e
def cList : List PV → Mem → Option (List PV)
  | [.tup xs], _ => some xs
  | [x], m => lstOf x m
  | _, _ => none
theorem cf_list (hK : X.K = T.K) : ClF X T (.type "list") cList := by
  refine ⟨_, call_list_of, fun {av r H m xs z vs Q} rm rv e k => ?_⟩
  unfold cList at e
  split at e
  · cases e
    obtain ⟨v, rfl, h⟩ := rvs1 rv
    obtain ⟨a, vs, rfl, ha, hv⟩ := tup_ok hK h
    exact ⟨a, vs, rfl, .inr ha, fun p hp => kf_new rm hp hv k⟩
  · obtain ⟨v, rfl, h⟩ := rvs1 rv
    obtain ⟨a, vs, rfl, ha, hv⟩ := lstOf_ok rm h e
    exact ⟨a, vs, rfl, .inl (.inl ha), fun p hp => kf_new rm hp hv k⟩
  · cases e
end M

namespace M
open PySem PySem.Spec PyProof.Rows L2
variable {X : Cx} {T : Tx} {W : WX} {a b c : Expr} {ma mb mc : ME} {mt mu : MT} {pos : Pos}

/-! ### isinstance -/
/-- 0 None, 1 bool, 2 int, 3 str, 4 tuple, 5 list, 6 dict, 10 + c: the class c -/
def tagOf : PV → Mem → Option Nat
  | .non, _ => some 0
  | .bl _, _ => some 1
  | .int _, _ => some 2
  | .str _, _ => some 3
  | .tup _, _ => some 4
  | .lst _, _ => some 5
  | .dct _ _, _ => some 6
  | .ins c _, _ => some (10 + c)
  | .dtt _ _, _ => some 6
  | .glo _, _ => none
  | .exn _ _, _ => none
  | .kst _, _ => none
  | .ref i, m => match m[i]? with
    | some (.lst _) => some 5
    | some (.dct _ _) => some 6
    | some (.ins c _) => some (10 + c)
    | some (.dtt _ _) => none
    | some (.dnn _ _) => none
    | none => none
def tagN : Nat → String
  | 0 => "NoneType" | 1 => "bool" | 2 => "int" | 3 => "str" | 4 => "tuple" | 5 => "list" | _ => "dict"
/-- what isinstance answers: k's class, a tag -/
structure IsiOk (X : Cx) (T : Tx) (isF : Nat → Nat → Option Bool) : Prop where
  cls : ∀ k t b, isF k t = some b → ∃ u, ClsV (T.g k) u ∧ (t < 10 → PySem.W.kitOne X.K (.type (tagN t)) u = some b) ∧ ∀ c, t = 10 + c → C8.InsC X.K (T.cA c) ∧ PySem.W.kitOne X.K (.ref (T.cA c)) u = some b
/-- the library's isinstance rules know the value's type -/
def KitV (X : Cx) (H : Hp) (x : V) (t : Value) : Prop := ∀ (pins : List (Addr × Obj)) (σ : L2.St) (s : Shared) (u : Value), Inv X pins σ H s → RelV x u → ∃ P : Heap → Prop, PySem.W.KitX X.K u t P ∧ P s.heap ∧ u ≠ .builtin "__main__.__loader__#opaque"
theorem KitV.of {H : Hp} {x : V} {t : Value} (h : TyX X.K H x t) : KitV X H x t := fun _ _ _ _ I r => kit_of I r h
theorem KitV.frzT {H : Hp} {a : Addr} {o : Obj} {kvs : List (List Key × V)} (e : H a = some (.frz o (.dT kvs))) : KitV X H (.ref a) (.type "dict") := fun pins σ s u I r => by
  cases (show u = Value.ref a from r)
  obtain ⟨_, _, xs, _, o, es, ep, h1, h2, _⟩ := (show ObjOk X.prog X.w H s.heap a (.frz _ (.dT kvs)) from I.hok a _ e).2
  exact ⟨_, PySem.W.kitx_dict, ⟨o, h1, h2.1⟩, fun z => nomatch z⟩
theorem call_isiM : CallR X (.builtin "isinstance") (fun xs H Q => ∃ (x c : V) (t u : Value) (b : Bool), xs = [x, c] ∧ ClsV c u ∧ KitV X H x t ∧ PySem.W.kitOne X.K t u = some b ∧ Q (.bl b) H) := by
  intro pins s σ H xs us Q I r h
  obtain ⟨x, c, t, u, b, rfl, k, ty, e, q⟩ := h
  obtain ⟨u1, u2, rfl, r1, r2⟩ := vals2 r
  have e2 := k.eq r2
  subst e2
  obtain ⟨P, Z, p, hx⟩ := ty _ _ _ _ I r1
  exact PySem.W.kia_one Z I.kIn p e hx fun tk => ⟨.bl b, H, I.tok tk, rfl, q⟩
theorem tag_ok (hK : X.K = T.K) {av : Av} {r : List Addr} {H : Hp} {m : Mem} (rm : RM T av r H m) {x : PV} {v : V} {t : Nat} (h : RV T av r H x v) (e : tagOf x m = some t) (hc : ∀ c, t = 10 + c → C8.InsC X.K (T.cA c)) :
    ∃ ty, KitV X H v ty ∧ ((t < 10 ∧ ty = .type (tagN t)) ∨ ∃ c, t = 10 + c ∧ ty = .ref (T.cA c)) := by
  have ins_ok : ∀ {c : Nat} {a dx : Addr} {fs : List (Str × V)}, t = 10 + c → H a = some (.ins (T.cA c) dx fs) → KitV X H (.ref a) (.ref (T.cA c)) := fun {c a dx fs} e ha =>
    .of (.base <| TyOf.ins ha (hc c e).cl (hc c e).ha (hc c e).hn (hc c e).htk (hc c e).hm)
  have lst_ok : ∀ {a : Addr} {vs : List V}, Rd H a (.lst vs) → KitV X H (.ref a) (.type "list") := fun {a vs} ha => by
    rcases ha with ha | ⟨o, ha⟩
    · exact .of <| .base (.lst ha)
    · exact .of <| .base (.frz ha)
  have dct_ok : ∀ {a : Addr} {ks : List PV} {vs : List V}, DM H a ks vs → KitV X H (.ref a) (.type "dict") := fun {a ks vs} ha => by
    rcases ha with ⟨kvs, ha, _⟩ | ⟨kvs, ha, _⟩
    · exact .of <| .base (.dK ha)
    · exact .of <| .base (.dT ha)
  cases x with
  | non => cases e; rw [h.non']; exact ⟨_, .of <| .base .non, .inl ⟨by decide, rfl⟩⟩
  | bl b => cases e; rw [h.bl']; exact ⟨_, .of <| .base (.bl b), .inl ⟨by decide, rfl⟩⟩
  | int i => cases e; rw [h.int']; exact ⟨_, .of <| .base (.int i), .inl ⟨by decide, rfl⟩⟩
  | str s => cases e; rw [h.str']; exact ⟨_, .of <| .base (.str s), .inl ⟨by decide, rfl⟩⟩
  | tup xs =>
    cases e
    unfold RV at h
    obtain ⟨a, vs, rfl, h1, _⟩ := h
    refine ⟨.type "tuple", ?_, .inl ⟨by decide, rfl⟩⟩
    rcases h1 with ⟨_, ha⟩ | ⟨_, o, its, n, hk, hcl, _⟩
    · exact .of <| .base (.tup ha)
    · exact .of <| .kTuple (by rw [hK]; exact hk) hcl
  | exn c ws => cases e
  | kst xs => cases e
  | lst xs =>
    cases e
    unfold RV at h
    obtain ⟨a, vs, rfl, _, ha, _⟩ := h
    exact ⟨_, lst_ok ha, .inl ⟨by decide, rfl⟩⟩
  | dct ks ws =>
    cases e
    unfold RV at h
    obtain ⟨a, vs, rfl, _, ha, _⟩ := h
    rcases ha with ⟨kvs, ha | ⟨o, ha⟩, _⟩ | ⟨kvs, ha | ⟨o, ha⟩, _⟩
    · exact ⟨_, .of <| .base (.dK ha), .inl ⟨by decide, rfl⟩⟩
    · exact ⟨_, .of <| .fDict ha, .inl ⟨by decide, rfl⟩⟩
    · exact ⟨_, .of <| .base (.dT ha), .inl ⟨by decide, rfl⟩⟩
    · exact ⟨_, .frzT ha, .inl ⟨by decide, rfl⟩⟩
  | ins c ws =>
    cases e
    unfold RV at h
    obtain ⟨a, dx, fs, rfl, _, ha, _⟩ := h
    exact ⟨_, ins_ok rfl ha, .inr ⟨c, rfl, rfl⟩⟩
  | dtt ks ws =>
    cases e
    unfold RV at h
    obtain ⟨a, kvs, rfl, _, ha | ⟨o, ha⟩, _⟩ := h
    · exact ⟨_, .of <| .base (.dT ha), .inl ⟨by decide, rfl⟩⟩
    · exact ⟨_, .frzT ha, .inl ⟨by decide, rfl⟩⟩
  | glo k => cases e
  | ref i =>
    unfold RV at h
    obtain ⟨a, h1, rfl⟩ := h
    rw [tagOf] at e
    split at e
    · cases e
      rename_i xs hx
      obtain ⟨vs, ha, _⟩ := rm.ob i _ a hx h1
      exact ⟨_, lst_ok (.inl ha), .inl ⟨by decide, rfl⟩⟩
    · cases e
      rename_i xs ys hx
      obtain ⟨vs, ha, _⟩ := rm.ob i _ a hx h1
      exact ⟨_, dct_ok ha, .inl ⟨by decide, rfl⟩⟩
    · cases e
      rename_i c ws hx
      obtain ⟨dx, fs, ha, _⟩ := rm.ob i _ a hx h1
      exact ⟨_, ins_ok rfl ha, .inr ⟨c, rfl, rfl⟩⟩
    · cases e
    · cases e
    · cases e
def cIsi (isF : Nat → Nat → Option Bool) : List PV → Mem → Option PV
  | [x, .glo k], m => match tagOf x m with
    | some t => match isF k t with
      | some b => some (.bl b)
      | none => none
    | none => none
  | _, _ => none
theorem cm_isi (hK : X.K = T.K) {isF : Nat → Nat → Option Bool} (hi : IsiOk X T isF) : ClM X T (.builtin "isinstance") (cIsi isF) := by
  refine ⟨_, call_isiM, fun {av r H m xs z vs Q} rm rv e k => ?_⟩
  unfold cIsi at e
  split at e
  · split at e
    · rename_i t ht
      split at e
      · rename_i bb hb
        cases e
        obtain ⟨v, w, rfl, h1, h2⟩ := rvs2 rv
        obtain ⟨u, hu, hf, hc⟩ := hi.cls _ _ _ hb
        obtain ⟨ty, hty, hh⟩ := tag_ok hK rm h1 ht fun c e => (hc c e).1
        unfold RV at h2
        subst h2
        refine ⟨v, _, ty, u, bb, rfl, hu, hty, ?_, k r H _ .refl rm rv_bl⟩
        rcases hh with ⟨hlt, rfl⟩ | ⟨c, hc', rfl⟩
        · exact hf hlt
        · exact (hc c hc').2
      · cases e
    · cases e
  · cases e

/-! ### items, attributes -/
theorem RVs.get : ∀ {av : Av} {r : List Addr} {H : Hp} {xs : List PV} {vs : List V} {i : Nat} {x : PV}, RVs T av r H xs vs → xs[i]? = some x → ∃ v, vs[i]? = some v ∧ RV T av r H x v
  | _, _, _, [], _, _, _, _, e => by simp at e
  | _, _, _, y :: ys, _, 0, x, h, e => by
    unfold RVs at h
    obtain ⟨v, ws, rfl, h1, _⟩ := h
    simp at e
    subst e
    exact ⟨v, rfl, h1⟩
  | _, _, _, y :: ys, _, i + 1, x, h, e => by
    unfold RVs at h
    obtain ⟨v, ws, rfl, _, h2⟩ := h
    obtain ⟨w, hw, q⟩ := RVs.get (i := i) h2 (by simpa using e)
    exact ⟨w, by simpa using hw, q⟩
theorem RVs.at {av : Av} {r : List Addr} {H : Hp} {xs : List PV} {vs : List V} {i : Int} {x : PV} (h : RVs T av r H xs vs) (e : atI xs i = some x) : ∃ v, atI vs i = some v ∧ RV T av r H x v := by
  unfold atI at e
  cases q : ixN xs.length i with
  | none => rw [q] at e; cases e
  | some j =>
    rw [q] at e
    obtain ⟨v, hv, rv⟩ := h.get (i := j) e
    refine ⟨v, ?_, rv⟩
    unfold atI
    rw [h.length, q]
    exact hv
def fIx : PV → PV → Mem → Option PV := fun x y m => match x, y with
  | .tup xs, .int i => atI xs i
  | .kst xs, .int i => atI xs i
  | x, .int i => match lstOf x m with
    | some xs => atI xs i
    | none => none
  | _, _ => none
def IxM (X : Cx) (T : Tx) (f : PV → PV → Mem → Option PV) : Prop :=
  ∃ rd : R2, IxR X rd ∧ ∀ {av : Av} {r : List Addr} {H : Hp} {m : Mem} {x y z : PV} {v w : V} {Q : VK}, RM T av r H m → RV T av r H x v → RV T av r H y w → f x y m = some z → KE T av r H Q z m → rd v w H Q
theorem im_seq (hK : X.K = T.K) : IxM X T fIx := by
  refine ⟨_, ix_seq, fun {av r H m x y z v w Q} rm rv rw e k => ?_⟩
  unfold fIx at e
  split at e
  · obtain ⟨a, vs, rfl, ha, hv⟩ := tup_ok hK rv
    obtain ⟨u, hu, ru⟩ := hv.at e
    exact .inr (.inl ⟨a, vs, _, u, rfl, rw.int', ha, hu, k r H _ .refl rm ru⟩)
  · obtain ⟨a, vs, rfl, ha, hv⟩ := kst_ok hK rv
    obtain ⟨u, hu, ru⟩ := hv.at e
    exact .inl ⟨a, vs, _, u, rfl, rw.int', ha, hu, k r H _ .refl rm ru⟩
  · split at e
    · rename_i xs hx
      obtain ⟨a, vs, rfl, ha, hv⟩ := lstOf_ok rm rv hx
      obtain ⟨u, hu, ru⟩ := hv.at e
      exact .inl ⟨a, vs, _, u, rfl, rw.int', .inl ha, hu, k r H _ .refl rm ru⟩
    · cases e
  · cases e
theorem se_ix {f : PV → PV → Mem → Option PV} (ho : IxM X T f) (ha : SE X T W a ma) (hb : SE X T W b mb) (hs : PlainIx b := by exact fun _ _ => rfl) : SE X T W (.Subscript a b pos) (mBin f ma mb) := by
  obtain ⟨rd, h1, h2⟩ := ho
  exact ⟨PE.imp (pe_ix h1 ha.pe hb.pe hs) fun σ H Q ⟨av, r, e, m, re, rm, h⟩ =>
    ⟨av, r, e, m, re, rm, okR_imp (okR_bind h) fun x m1 h r1 H1 v g1 rm1 rv =>
      ⟨av, r1, e, m1, re.grow g1, rm1, okR_grow g1 (fun y m2 h r2 H2 w g2 rm2 rw => by
        obtain ⟨z, hz, k⟩ := okR_oP h
        exact h2 rm2 (rv.grow g2) rw hz (KE.grow (g1.trans g2) k)) (okR_bind h)⟩⟩⟩
/-- an attribute: the i-th of the class c -/
theorem lookup_at {fs : List (Str × V)} {i : Nat} {f : Str} {v : V} (nd : (fs.map (·.1)).Nodup) (h1 : (fs.map (·.1))[i]? = some f) (h2 : (fs.map (·.2))[i]? = some v) : fs.lookup f = some v := by
  induction fs generalizing i with
  | nil => simp at h1
  | cons p ps ih =>
    cases i with
    | zero =>
      simp at h1 h2
      subst h1 h2
      simp [List.lookup]
    | succ i =>
      simp only [List.map_cons, List.getElem?_cons_succ] at h1 h2
      rw [List.map_cons, List.nodup_cons] at nd
      have ne : (f == p.1) = false := by
        rw [beq_eq_false_iff_ne]
        intro z
        exact nd.1 (z ▸ List.mem_of_getElem? h1)
      obtain ⟨p1, p2⟩ := p
      rw [List.lookup_cons]
      simp only at ne
      rw [ne]
      exact ih nd.2 h1 h2
def fldOf (c i : Nat) : PV → Mem → Option PV
  | .ins c' ws, _ => if c' == c then ws[i]? else none
  | .ref j, m => match m[j]? with
    | some (.ins c' ws) => if c' == c then ws[i]? else none
    | _ => none
  | _, _ => none
theorem fldOf_ok {av : Av} {r : List Addr} {H : Hp} {m : Mem} {x z : PV} {v : V} {c i : Nat} {f : Str} (nd : (T.cN c).Nodup) (hf : (T.cN c)[i]? = some f) (rm : RM T av r H m) (h : RV T av r H x v) (e : fldOf c i x m = some z) :
    ∃ a dx fs w, v = .ref a ∧ H a = some (.ins (T.cA c) dx fs) ∧ fs.lookup f = some w ∧ RV T av r H z w := by
  unfold fldOf at e
  split at e
  · rename_i c' ws
    split at e
    · rename_i hc
      rw [beq_iff_eq] at hc
      subst hc
      unfold RV at h
      obtain ⟨a, dx, fs, rfl, _, ha, hn, hv⟩ := h
      obtain ⟨w, hw, rw'⟩ := hv.get e
      exact ⟨a, dx, fs, w, rfl, ha, lookup_at (by rw [hn]; exact nd) (by rw [hn]; exact hf) hw, rw'⟩
    · cases e
  · rename_i j
    split at e
    · rename_i c' ws hx
      split at e
      · rename_i hc
        rw [beq_iff_eq] at hc
        subst hc
        unfold RV at h
        obtain ⟨a, h1, rfl⟩ := h
        obtain ⟨dx, fs, ha, hn, hv, _⟩ := rm.ob j _ a hx h1
        obtain ⟨w, hw, rw'⟩ := hv.get e
        have hi : i < ws.length := (List.getElem?_eq_some_iff.mp e).1
        exact ⟨a, dx, fs, w, rfl, ha, lookup_at (by rw [hn]; exact nd.sublist (List.take_sublist _ _)) (by rw [hn, List.getElem?_take_of_lt hi]; exact hf) hw, rw'⟩
      · cases e
    · cases e
  · cases e
def mFld (c i : Nat) (ma : ME) : ME := fun e m => (ma e m).bind fun x m1 => oP (fldOf c i x m1) m1
theorem se_fld (cl i : Nat) {f : Str} (hc : Cls X.K (T.cA cl)) (hn : NoAttr X.K (T.cA cl) f) (nd : (T.cN cl).Nodup) (hf : (T.cN cl)[i]? = some f) (ha : SE X T W a ma) (hb : attributeBase a f X.env (eval a X.env) = eval a X.env := by rfl) :
    SE X T W (.Attribute a f pos) (mFld cl i ma) :=
  ⟨PE.imp (pe_fld ha.pe hb) fun σ H Q ⟨av, r, e, m, re, rm, h⟩ =>
    ⟨av, r, e, m, re, rm, okR_imp (okR_bind h) fun x m1 h r1 H1 v g1 rm1 rv => by
      obtain ⟨z, hz, k⟩ := okR_oP h
      obtain ⟨a, dx, fs, w, rfl, h1, h2, h3⟩ := fldOf_ok nd hf rm1 rv hz
      exact ⟨a, _, dx, fs, w, rfl, h1, hc, hn, h2, k r1 H1 w g1 rm1 h3⟩⟩⟩

/-! ### slices -/
def tO (T : Tx) (W : WX) (mo : Env → Mem → Res (Option Int)) : TO := fun σ H Q => ∃ av r e m, RE T av r H e σ ∧ RM T av r H m ∧ okR T av r H (fun c d H' => W c d σ H') (fun o m' => ∀ r' H', Grow r H r' H' → RM T av r' H' m' → Q o H') (mo e m)
structure SO (X : Cx) (T : Tx) (W : WX) (e : Option Expr) (mo : Env → Mem → Res (Option Int)) : Prop where po : PO X e (tO T W mo)
theorem PO.imp {e : Option Expr} {t t' : TO} (h : PO X e t) (f : ∀ σ H Q, t' σ H Q → t σ H Q) : PO X e t' := ⟨fun pins s σ H Q I q => h.run pins s σ H Q I (f σ H Q q)⟩
def mNoP : Env → Mem → Res (Option Int) := fun _ m => .ok none m
def mSoP (ma : ME) : Env → Mem → Res (Option Int) := fun e m => (ma e m).bind fun v m1 => match v with
  | .int i => .ok (some i) m1
  | _ => .bad
theorem so_none : SO X T W none mNoP := ⟨PO.imp po_none fun σ H Q ⟨av, r, e, m, re, rm, h⟩ => h r H .refl rm⟩
theorem so_some (ha : SE X T W a ma) : SO X T W (some a) (mSoP ma) := ⟨PO.imp (po_some ha.pe) fun σ H Q ⟨av, r, e, m, re, rm, h⟩ =>
  ⟨av, r, e, m, re, rm, okR_imp (okR_bind h) fun x m1 h r1 H1 v g1 rm1 rv => by
    split at h
    · exact ⟨_, rv.int', h r1 H1 g1 rm1⟩
    · exact h.elim⟩⟩
def cutP {s : Type} (xs : List s) (lo hi : Option Int) : List s := (xs.drop (HT.sIx xs.length 0 lo)).take (HT.sIx xs.length xs.length hi - HT.sIx xs.length 0 lo)
theorem RVs.drop {av : Av} {r : List Addr} {H : Hp} : ∀ (n : Nat) {xs : List PV} {vs : List V}, RVs T av r H xs vs → RVs T av r H (xs.drop n) (vs.drop n)
  | 0, _, _, h => h
  | n + 1, [], _, h => by unfold RVs at h; subst h; simp; unfold RVs; rfl
  | n + 1, x :: xs, _, h => by
    unfold RVs at h
    obtain ⟨v, ws, rfl, _, h2⟩ := h
    exact RVs.drop n h2
theorem RVs.take {av : Av} {r : List Addr} {H : Hp} : ∀ (n : Nat) {xs : List PV} {vs : List V}, RVs T av r H xs vs → RVs T av r H (xs.take n) (vs.take n)
  | 0, _, _, h => by simp; unfold RVs; rfl
  | n + 1, [], _, h => by unfold RVs at h; subst h; simp; unfold RVs; rfl
  | n + 1, x :: xs, _, h => by
    unfold RVs at h
    obtain ⟨v, ws, rfl, h1, h2⟩ := h
    simp only [List.take_succ_cons]
    unfold RVs
    exact ⟨v, _, rfl, h1, RVs.take n h2⟩
theorem RVs.cut {av : Av} {r : List Addr} {H : Hp} {xs : List PV} {vs : List V} {lo hi : Option Int} (h : RVs T av r H xs vs) : RVs T av r H (cutP xs lo hi) (cutV vs lo hi) := by
  unfold cutP cutV
  rw [h.length]
  exact (h.drop _).take _
def mSl {s : Type} (f : PV → Option Int → Option Int → Mem → Option s) (ma : ME) (ml mh : Env → Mem → Res (Option Int)) : Env → Mem → Res s := fun e m => (ma e m).bind fun x m1 => (ml e m1).bind fun l m2 => (mh e m2).bind fun u m3 => oP (f x l u m3) m3
def SlM (X : Cx) (T : Tx) (f : PV → Option Int → Option Int → Mem → Option PV) : Prop :=
  ∃ rd : V → Option Int → Option Int → Hp → VK → Prop, SlR X rd ∧ ∀ {av : Av} {r : List Addr} {H : Hp} {m : Mem} {x z : PV} {lo hi : Option Int} {v : V} {Q : VK}, RM T av r H m → RV T av r H x v → f x lo hi m = some z → KE T av r H Q z m → rd v lo hi H Q
def SlF (X : Cx) (T : Tx) (f : PV → Option Int → Option Int → Mem → Option (List PV)) : Prop :=
  ∃ rd : V → Option Int → Option Int → Hp → VK → Prop, SlR X rd ∧ ∀ {av : Av} {r : List Addr} {H : Hp} {m : Mem} {x : PV} {z : List PV} {lo hi : Option Int} {v : V} {Q : VK}, RM T av r H m → RV T av r H x v → f x lo hi m = some z → KF T av r H Q z m → rd v lo hi H Q
theorem se_sl {f : PV → Option Int → Option Int → Mem → Option PV} {lo hi : Option Expr} {ml mh : Env → Mem → Res (Option Int)} {p2 : Pos} (ho : SlM X T f) (ha : SE X T W a ma) (hl : SO X T W lo ml) (hh : SO X T W hi mh) : SE X T W (.Subscript a (.Slice lo hi none p2) pos) (mSl f ma ml mh) := by
  obtain ⟨rd, h1, h2⟩ := ho
  exact ⟨PE.imp (pe_slice h1 ha.pe hl.po hh.po) fun σ H Q ⟨av, r, e, m, re, rm, h⟩ =>
    ⟨av, r, e, m, re, rm, okR_imp (okR_bind h) fun x m1 h r1 H1 v g1 rm1 rv =>
      ⟨av, r1, e, m1, re.grow g1, rm1, okR_grow g1 (fun l m2 h r2 H2 g2 rm2 =>
        ⟨av, r2, e, m2, re.grow (g1.trans g2), rm2, okR_grow (g1.trans g2) (fun u m3 h r3 H3 g3 rm3 => by
          obtain ⟨z, hz, k⟩ := okR_oP h
          exact h2 rm3 (rv.grow (g2.trans g3)) hz (KE.grow ((g1.trans g2).trans g3) k)) (okR_bind h)⟩) (okR_bind h)⟩⟩⟩
theorem sf_sl {f : PV → Option Int → Option Int → Mem → Option (List PV)} {lo hi : Option Expr} {ml mh : Env → Mem → Res (Option Int)} {p2 : Pos} (ho : SlF X T f) (ha : SE X T W a ma) (hl : SO X T W lo ml) (hh : SO X T W hi mh) : SF X T W (.Subscript a (.Slice lo hi none p2) pos) (mSl f ma ml mh) := by
  obtain ⟨rd, h1, h2⟩ := ho
  exact ⟨PE.imp (pe_slice h1 ha.pe hl.po hh.po) fun σ H Q ⟨av, r, e, m, re, rm, h⟩ =>
    ⟨av, r, e, m, re, rm, okR_imp (okR_bind h) fun x m1 h r1 H1 v g1 rm1 rv =>
      ⟨av, r1, e, m1, re.grow g1, rm1, okR_grow g1 (fun l m2 h r2 H2 g2 rm2 =>
        ⟨av, r2, e, m2, re.grow (g1.trans g2), rm2, okR_grow (g1.trans g2) (fun u m3 h r3 H3 g3 rm3 => by
          obtain ⟨z, hz, k⟩ := okR_oP h
          exact h2 rm3 (rv.grow (g2.trans g3)) hz (KF.grow ((g1.trans g2).trans g3) k)) (okR_bind h)⟩) (okR_bind h)⟩⟩⟩
def sTup : PV → Option Int → Option Int → Mem → Option PV := fun x lo hi _ => match x with
  | .tup xs => some (.tup (cutP xs lo hi))
  | _ => none
theorem sm_tup (hK : X.K = T.K) : SlM X T sTup := by
  refine ⟨_, sl_tupA, fun {av r H m x z lo hi v Q} rm rv e k => ?_⟩
  unfold sTup at e
  split at e
  · rename_i xs
    cases e
    have rv0 := rv
    obtain ⟨a, vs, rfl, ha, hv⟩ := tup_ok hK rv
    refine ⟨a, vs, rfl, ha, fun hw => k r H _ .refl rm ?_, fun _ p hp => ke_newT rm hp hv.cut k⟩
    have e0 : cutP xs lo hi = xs := by
      unfold cutP
      rw [← hv.length, hw.1, hw.2, List.drop_zero, Nat.sub_zero, hv.length, List.take_length]
    rw [e0]
    exact rv0
  · cases e
def sLst : PV → Option Int → Option Int → Mem → Option (List PV) := fun x lo hi m => match lstOf x m with
  | some xs => some (cutP xs lo hi)
  | none => none
theorem sf_lstS : SlF X T sLst := by
  refine ⟨_, sl_list, fun {av r H m x z lo hi v Q} rm rv e k => ?_⟩
  unfold sLst at e
  split at e
  · rename_i xs hx
    cases e
    obtain ⟨a, vs, rfl, ha, hv⟩ := lstOf_ok rm rv hx
    exact ⟨a, vs, rfl, .inl ha, fun p hp => kf_new rm hp hv.cut k⟩
  · cases e

/-! ### in, not in -/
def rInT (K : PySem.W.Frag) (neg : Bool) : R2 := fun x y H Q => ∃ d ds, Dp K H x d ∧ (Dp K H y (.list ds) ∨ Dp K H y (.tuple ds)) ∧ SeqAt.shaped d = true ∧ SeqAt.shaped (.list ds) = true ∧ Q (.bl (if neg then !(ds.any fun z => PyData.eqv z d) else ds.any fun z => PyData.eqv z d)) H
theorem op_inT (hu : X.A.units + 65 < cLine) : OpR X (compareOp .In) (rInT X.K false) := by
  intro pins s σ H x y v u Q I rx ry h
  obtain ⟨d, ds, hd, he, sd, se, q⟩ := h
  obtain ⟨as, r1⟩ := Dp.reads I d x v hd rx
  rcases he with he | he
  · obtain ⟨bs, r2⟩ := Dp.reads I (.list ds) y u he ry
    exact SeqAt.in_list_reads r2 r1 (SeqAt.canLay_of_shaped se) (SeqAt.canLay_of_shaped sd) (room_in_shaped sd hu) ⟨.bl _, H, I, rfl, q⟩
  · obtain ⟨bs, r2⟩ := Dp.reads I (.tuple ds) y u he ry
    exact SeqAt.in_tuple_reads r2 r1 (SeqAt.canLay_of_shaped se) (SeqAt.canLay_of_shaped sd) (room_in_shaped sd hu) ⟨.bl _, H, I, rfl, q⟩
theorem op_notInT (hu : X.A.units + 65 < cLine) : OpR X (compareOp .NotIn) (rInT X.K true) := by
  intro pins s σ H x y v u Q I rx ry h
  obtain ⟨d, ds, hd, he, sd, se, q⟩ := h
  obtain ⟨as, r1⟩ := Dp.reads I d x v hd rx
  rcases he with he | he
  · obtain ⟨bs, r2⟩ := Dp.reads I (.list ds) y u he ry
    exact SeqAt.notIn_list_reads r2 r1 (SeqAt.canLay_of_shaped se) (SeqAt.canLay_of_shaped sd) (room_in_shaped sd hu) ⟨.bl _, H, I, rfl, q⟩
  · obtain ⟨bs, r2⟩ := Dp.reads I (.tuple ds) y u he ry
    exact SeqAt.notIn_tuple_reads r2 r1 (SeqAt.canLay_of_shaped se) (SeqAt.canLay_of_shaped sd) (room_in_shaped sd hu) ⟨.bl _, H, I, rfl, q⟩
def itemsD : PyData → Option (List PyData)
  | .list ds => some ds
  | .tuple ds => some ds
  | _ => none
def fInD (neg : Bool) : PV → PV → Mem → Option PV := fun x y m => match datM m x, datM m y with
  | some d, some e => match itemsD e with
    | some ds => if SeqAt.shaped d && SeqAt.shaped (.list ds) then some (.bl (if neg then !(ds.any fun z => PyData.eqv z d) else ds.any fun z => PyData.eqv z d)) else none
    | none => none
  | _, _ => none
theorem fIn_some {neg : Bool} {x y z : PV} {m : Mem} (h : fInD neg x y m = some z) : ∃ d e ds, datM m x = some d ∧ datM m y = some e ∧ (e = .list ds ∨ e = .tuple ds) ∧ SeqAt.shaped d = true ∧ SeqAt.shaped (.list ds) = true ∧ z = .bl (if neg then !(ds.any fun z => PyData.eqv z d) else ds.any fun z => PyData.eqv z d) := by
  unfold fInD at h
  split at h
  · rename_i d e h1 h2
    split at h
    · rename_i ds hd
      split at h
      · rename_i hs
        rw [Bool.and_eq_true] at hs
        refine ⟨d, e, ds, h1, h2, ?_, hs.1, hs.2, (Option.some.inj h).symm⟩
        cases e <;> cases hd
        · exact .inl rfl
        · exact .inr rfl
      · cases h
    · cases h
  · cases h
theorem om_in (hK : X.K = T.K) (hu : X.A.units + 65 < cLine) : OpM X T (compareOp .In) (fInD false) := by
  refine ⟨_, op_inT hu, fun {av r H m x y z v w Q} rm rv rw e k => ?_⟩
  obtain ⟨d, e, ds, h1, h2, h3, h4, h5, rfl⟩ := fIn_some e
  refine ⟨d, ds, datM_ok hK rm rv h1, ?_, h4, h5, k r H _ .refl rm rv_bl⟩
  rcases h3 with rfl | rfl
  · exact .inl (datM_ok hK rm rw h2)
  · exact .inr (datM_ok hK rm rw h2)
theorem om_notIn (hK : X.K = T.K) (hu : X.A.units + 65 < cLine) : OpM X T (compareOp .NotIn) (fInD true) := by
  refine ⟨_, op_notInT hu, fun {av r H m x y z v w Q} rm rv rw e k => ?_⟩
  obtain ⟨d, e, ds, h1, h2, h3, h4, h5, rfl⟩ := fIn_some e
  refine ⟨d, ds, datM_ok hK rm rv h1, ?_, h4, h5, k r H _ .refl rm rv_bl⟩
  rcases h3 with rfl | rfl
  · exact .inl (datM_ok hK rm rw h2)
  · exact .inr (datM_ok hK rm rw h2)
end M

namespace M
open PySem PySem.Spec PyProof.Rows L2
variable {X : Cx} {T : Tx} {W : WX} {a b c : Expr} {ma mb mc : ME} {mt mu : MT} {ms mv : MS} {pos : Pos} {st : Stmt} {rest sts : List Stmt}
variable {av av' : Av} {r r' r2 : List Addr} {H H' H2 : Hp} {m m' : Mem}

/-! ### what a step may do, av aside -/
structure GrowA (av : Av) (r : List Addr) (H : Hp) (r' : List Addr) (H' : Hp) : Prop where
  ext : ∃ more, r' = r ++ more ∧ ∀ a ∈ more, ¬ Hard H a
  keep : ∀ b o, H b = some o → ¬ av b → b ∉ r → (∀ ps, o ≠ .tbl ps) → H' b = some o
  there : ∀ b, Hard H b → Hard H' b
theorem Grow.toA (g : Grow r H r' H') : GrowA av r H r' H' := ⟨g.ext, fun b o e _ n t => g.keep b o e n t, g.there⟩
theorem GrowA.trans (a : GrowA av r H r' H') (b : Grow r' H' r2 H2) : GrowA av r H r2 H2 := by
  obtain ⟨m1, e1, f1⟩ := a.ext
  obtain ⟨m2, e2, f2⟩ := b.ext
  refine ⟨⟨m1 ++ m2, by rw [e2, e1, List.append_assoc], fun x hx => (List.mem_append.mp hx).elim (f1 x) fun h z => f2 x h (a.there x z)⟩, fun x o e na n t => b.keep x o (a.keep x o e na n t) (fun h => ?_) t, fun x e => b.there x (a.there x e)⟩
  rw [e1] at h
  exact (List.mem_append.mp h).elim n fun h => f1 x h ⟨o, e, nTbl_of t⟩
theorem rd_keepA {a : Addr} {u : HO} (g : GrowA av r H r' H') (na : ¬ av a) (n : a ∉ r) (h : Rd H a u) (nt : ∀ ps, u ≠ .tbl ps) : Rd H' a u := by
  rcases h with h | ⟨o, h⟩
  · exact .inl (g.keep _ _ h na n nt)
  · exact .inr ⟨o, g.keep _ _ h na n (fun ps z => by cases z)⟩
theorem dk_keepA {a : Addr} {ks : List PV} {ws : List V} (g : GrowA av r H r' H') (na : ¬ av a) (n : a ∉ r) (h : DK H a ks ws) : DK H' a ks ws := by
  rcases h with ⟨kvs, h, e⟩ | ⟨kvs, h, e⟩
  · exact .inl ⟨kvs, rd_keepA g na n h (fun ps z => by cases z), e⟩
  · exact .inr ⟨kvs, rd_keepA g na n h (fun ps z => by cases z), e⟩
theorem Out.growA {a : Addr} (g : GrowA av r H r' H') (o : Out av r a) (h : Hard H a) : Out av r' a := by
  obtain ⟨more, e, f⟩ := g.ext
  refine ⟨o.1, fun hm => ?_⟩
  rw [e] at hm
  exact (List.mem_append.mp hm).elim o.2 fun q => f a q h
theorem get_growA {i : Nat} {a : Addr} (g : GrowA av r H r' H') (h : r[i]? = some a) : r'[i]? = some a := by
  obtain ⟨more, e, _⟩ := g.ext
  rw [e, List.getElem?_append_left (List.getElem?_eq_some_iff.mp h).1]
  exact h
mutual
theorem RV.growA (g : GrowA av r H r' H') : ∀ (x : PV) {v : V}, RV T av r H x v → RV T av r' H' x v
  | .non, _, h => by unfold RV at *; exact h
  | .bl _, _, h => by unfold RV at *; exact h
  | .int _, _, h => by unfold RV at *; exact h
  | .str _, _, h => by unfold RV at *; exact h
  | .tup xs, _, h => by
    unfold RV at *
    obtain ⟨a, vs, e, h1, h2⟩ := h
    refine ⟨a, vs, e, ?_, RVs.growA g xs h2⟩
    rcases h1 with ⟨o, d⟩ | k
    · exact .inl ⟨o.growA g ⟨_, d, trivial⟩, g.keep _ _ d o.1 o.2 (fun ps z => by cases z)⟩
    · exact .inr k
  | .kst xs, _, h => by
    unfold RV at *
    obtain ⟨a, vs, e, k, h2⟩ := h
    exact ⟨a, vs, e, k, RVs.growA g xs h2⟩
  | .lst xs, _, h => by
    unfold RV at *
    obtain ⟨a, vs, e, o, d, h2⟩ := h
    exact ⟨a, vs, e, o.growA g (rd_some d), rd_keepA g o.1 o.2 d (fun ps z => by cases z), RVs.growA g xs h2⟩
  | .ins c ws, _, h => by
    unfold RV at *
    obtain ⟨a, dx, fs, e, o, d, n, h2⟩ := h
    exact ⟨a, dx, fs, e, o.growA g ⟨_, d, trivial⟩, g.keep _ _ d o.1 o.2 (fun ps z => by cases z), n, RVs.growA g ws h2⟩
  | .dtt ks ws, _, h => by
    unfold RV at *
    obtain ⟨a, kvs, e, o, d, nm, h2⟩ := h
    exact ⟨a, kvs, e, o.growA g (rd_some d), rd_keepA g o.1 o.2 d (fun ps z => by cases z), nm, RVs.growA g ws h2⟩
  | .exn c ws, _, h => by
    unfold RV at *
    obtain ⟨a, dx, fs, ex, e, o, d, n, h2⟩ := h
    exact ⟨a, dx, fs, ex, e, o.growA g ⟨_, d, trivial⟩, g.keep _ _ d o.1 o.2 (fun ps z => by cases z), n, RVs.growA g ws h2⟩
  | .dct ks ws, _, h => by
    unfold RV at *
    obtain ⟨a, vs, e, o, d, h2⟩ := h
    exact ⟨a, vs, e, o.growA g (dk_some d), dk_keepA g o.1 o.2 d, RVs.growA g ws h2⟩
  | .glo _, _, h => by unfold RV at *; exact h
  | .ref i, _, h => by
    unfold RV at *
    obtain ⟨a, h1, h2⟩ := h
    exact ⟨a, get_growA g h1, h2⟩
theorem RVs.growA (g : GrowA av r H r' H') : ∀ (xs : List PV) {vs : List V}, RVs T av r H xs vs → RVs T av r' H' xs vs
  | [], _, h => by unfold RVs at *; exact h
  | x :: xs, _, h => by
    unfold RVs at *
    obtain ⟨v, ws, e, h1, h2⟩ := h
    exact ⟨v, ws, e, RV.growA g x h1, RVs.growA g xs h2⟩
end
/-! ### a wider set to keep away from -/
mutual
theorem RV.widen (hw : ∀ a, av' a → av a ∨ ¬ Hard H a) : ∀ (x : PV) {v : V}, RV T av r H x v → RV T av' r H x v
  | .non, _, h => by unfold RV at *; exact h
  | .bl _, _, h => by unfold RV at *; exact h
  | .int _, _, h => by unfold RV at *; exact h
  | .str _, _, h => by unfold RV at *; exact h
  | .tup xs, _, h => by
    unfold RV at *
    obtain ⟨a, vs, e, h1, h2⟩ := h
    refine ⟨a, vs, e, ?_, RVs.widen hw xs h2⟩
    rcases h1 with ⟨o, d⟩ | k
    · exact .inl ⟨⟨fun z => (hw a z).elim o.1 fun z => z ⟨_, d, trivial⟩, o.2⟩, d⟩
    · exact .inr k
  | .kst xs, _, h => by
    unfold RV at *
    obtain ⟨a, vs, e, k, h2⟩ := h
    exact ⟨a, vs, e, k, RVs.widen hw xs h2⟩
  | .lst xs, _, h => by
    unfold RV at *
    obtain ⟨a, vs, e, o, d, h2⟩ := h
    exact ⟨a, vs, e, ⟨fun z => (hw a z).elim o.1 fun z => z (rd_some d), o.2⟩, d, RVs.widen hw xs h2⟩
  | .ins c ws, _, h => by
    unfold RV at *
    obtain ⟨a, dx, fs, e, o, d, n, h2⟩ := h
    exact ⟨a, dx, fs, e, ⟨fun z => (hw a z).elim o.1 fun z => z ⟨_, d, trivial⟩, o.2⟩, d, n, RVs.widen hw ws h2⟩
  | .dtt ks ws, _, h => by
    unfold RV at *
    obtain ⟨a, kvs, e, o, d, nm, h2⟩ := h
    exact ⟨a, kvs, e, ⟨fun z => (hw a z).elim o.1 fun z => z (rd_some d), o.2⟩, d, nm, RVs.widen hw ws h2⟩
  | .exn c ws, _, h => by
    unfold RV at *
    obtain ⟨a, dx, fs, ex, e, o, d, n, h2⟩ := h
    exact ⟨a, dx, fs, ex, e, ⟨fun z => (hw dx z).elim o.1 fun z => z ⟨_, d, trivial⟩, o.2⟩, d, n, RVs.widen hw ws h2⟩
  | .dct ks ws, _, h => by
    unfold RV at *
    obtain ⟨a, vs, e, o, d, h2⟩ := h
    exact ⟨a, vs, e, ⟨fun z => (hw a z).elim o.1 fun z => z (dk_some d), o.2⟩, d, RVs.widen hw ws h2⟩
  | .glo _, _, h => by unfold RV at *; exact h
  | .ref i, _, h => by unfold RV at *; exact h
theorem RVs.widen (hw : ∀ a, av' a → av a ∨ ¬ Hard H a) : ∀ (xs : List PV) {vs : List V}, RVs T av r H xs vs → RVs T av' r H xs vs
  | [], _, h => by unfold RVs at *; exact h
  | x :: xs, _, h => by
    unfold RVs at *
    obtain ⟨v, ws, e, h1, h2⟩ := h
    exact ⟨v, ws, e, RV.widen hw x h1, RVs.widen hw xs h2⟩
end
theorem RE.map {av1 av2 : Av} {r1 r2 : List Addr} {H1 H2 : Hp} (f : ∀ x v, RV T av1 r1 H1 x v → RV T av2 r2 H2 x v) : ∀ {e : Env} {s : L2.St}, RE T av1 r1 H1 e s → RE T av2 r2 H2 e s
  | _, _, .nil => .nil
  | _, _, .cons h t => .cons (fun v hv => by obtain ⟨w, e, q⟩ := h v hv; exact ⟨w, e, f _ _ q⟩) (RE.map f t)
theorem RE.length {e : Env} {s : L2.St} (h : RE T av r H e s) : e.length = s.length := Paired.length h

/-! ### statements -/
def sB {s : Type} (x : Res s) (e : Env) (k : s → Mem → SRes) : SRes := match x with
  | .ok v m => k v m
  | .exc c ws m => .exc c ws e m
  | .bad => .bad
theorem okS_sB {D : Ends} {s : Type} {x : Res s} {e : Env} {σ : L2.St} {k : s → Mem → SRes} (re : RE T av r H e σ) (h : okS T av r H W D (sB x e k)) : okR T av r H (fun c d H' => W c d σ H') (fun v m => okS T av r H W D (k v m)) x := by
  cases x with
  | ok v m => exact h
  | exc c ws m => exact fun r' H' cls d g rm rx => h r' H' σ cls d g rm (re.grow g) rx
  | bad => exact h
theorem okS.grow {D : Ends} (g : Grow r H r' H') : ∀ {x : SRes}, okS T av r H W D x → okS T av r' H' W D x
  | .nx _ _, h => fun r2 H2 σ2 g2 rm re => h r2 H2 σ2 (g.trans g2) rm re
  | .bk _ _, h => fun r2 H2 σ2 g2 rm re => h r2 H2 σ2 (g.trans g2) rm re
  | .ct _ _, h => fun r2 H2 σ2 g2 rm re => h r2 H2 σ2 (g.trans g2) rm re
  | .rt _ _, h => fun r2 H2 w g2 rm rv => h r2 H2 w (g.trans g2) rm rv
  | .exc _ _ _ _, h => fun r2 H2 σ2 c d g2 rm re rx => h r2 H2 σ2 c d (g.trans g2) rm re rx
  | .bad, h => h
def mExpr (ma : ME) : MS := fun e m => sB (ma e m) e fun _ m1 => .nx e m1
theorem ss_expr (ha : SE X T W a ma) (hs : swapsWith a none pos.line X.env = pure false := by rfl) : SS X T W (.Expr a pos) (mExpr ma) :=
  ⟨PS.imp (ps_expr ha.pe hs) fun D σ H ⟨av, r, e, m, re, rm, h⟩ => ⟨av, r, e, m, re, rm, okR_imp (okS_sB re h) fun v m1 h r1 H1 w g1 rm1 rv => h r1 H1 σ g1 rm1 (re.grow g1)⟩⟩
def mRet (ma : ME) : MS := fun e m => sB (ma e m) e fun v m1 => .rt v m1
theorem ss_ret (ha : SE X T W a ma) : SS X T W (.Return (some a) pos) (mRet ma) :=
  ⟨PS.imp (ps_ret ha.pe) fun D σ H ⟨av, r, e, m, re, rm, h⟩ => ⟨av, r, e, m, re, rm, okR_imp (okS_sB re h) fun v m1 h => h⟩⟩
def mRetN : MS := fun _ m => .rt .non m
theorem ss_retN : SS X T W (.Return none pos) mRetN := ⟨PS.imp ps_retN fun D σ H ⟨av, r, e, m, re, rm, h⟩ => h r H .non .refl rm rv_non⟩
def mPass : MS := fun e m => .nx e m
def mBrk : MS := fun e m => .bk e m
def mCnt : MS := fun e m => .ct e m
def mBad : MS := fun _ _ => .bad
theorem ss_pass : SS X T W (.Pass pos) mPass := ⟨PS.imp ps_pass fun D σ H ⟨av, r, e, m, re, rm, h⟩ => h r H σ .refl rm re⟩
theorem ss_break : SS X T W (.Break pos) mBrk := ⟨PS.imp ps_break fun D σ H ⟨av, r, e, m, re, rm, h⟩ => h r H σ .refl rm re⟩
theorem ss_cont : SS X T W (.Continue pos) mCnt := ⟨PS.imp ps_continue fun D σ H ⟨av, r, e, m, re, rm, h⟩ => h r H σ .refl rm re⟩
/-- what the evaluator does not follow -/
theorem ss_bad : SS X T W st mBad := ⟨PS.imp ps_never fun D σ H ⟨av, r, e, m, re, rm, h⟩ => h⟩
theorem sb_bad : SB X T W sts mBad := ⟨PSs.imp pss_never fun D σ H ⟨av, r, e, m, re, rm, h⟩ => h⟩
def mSeq (a b : MS) : MS := fun e m => match a e m with
  | .nx e1 m1 => b e1 m1
  | x => x
theorem okS_seq {D : Ends} {D' : Ends} {mv : MS} (hn : ∀ e1 m1 r' H' σ', okS T av r H W D (mv e1 m1) → Grow r H r' H' → RM T av r' H' m1 → RE T av r' H' e1 σ' → D'.nx σ' H') (hr : D'.rt = D.rt) (hb : D'.bk = D.bk) (hc : D'.ct = D.ct) :
    ∀ {x : SRes}, okS T av r H W D (match x with
      | .nx e1 m1 => mv e1 m1
      | x => x) → okS T av r H W D' x
  | .nx _ _, h => fun r2 H2 σ2 g rm re => hn _ _ r2 H2 σ2 h g rm re
  | .bk _ _, h => fun r2 H2 σ2 g rm re => hb ▸ h r2 H2 σ2 g rm re
  | .ct _ _, h => fun r2 H2 σ2 g rm re => hc ▸ h r2 H2 σ2 g rm re
  | .rt _ _, h => fun r2 H2 w g rm re => hr ▸ h r2 H2 w g rm re
  | .exc _ _ _ _, h => h
  | .bad, h => h
theorem sb_nil : SB X T W [] mPass := ⟨PSs.imp pss_nil fun D σ H ⟨av, r, e, m, re, rm, h⟩ => h r H σ .refl rm re⟩
theorem sb_one (h : SS X T W st ms) : SB X T W [st] ms := ⟨pss_one h.ps⟩
theorem sb_cons (h1 : SS X T W st ms) (h2 : SB X T W rest mv) : SB X T W (st :: rest) (mSeq ms mv) :=
  ⟨PSs.imp (pss_cons h1.ps h2.ps) fun D σ H ⟨av, r, e, m, re, rm, h⟩ => ⟨av, r, e, m, re, rm, okS_seq (D' := { D with nx := tS T W mv D }) (fun e1 m1 r' H' σ' h g rm' re' => ⟨av, r', e1, m1, re', rm', h.grow g⟩) rfl rfl rfl h⟩⟩
def mIfS (t : MT) (a b : MS) : MS := fun e m => sB (t e m) e fun k m1 => if k then a e m1 else b e m1
theorem ss_if (hc : ST X T W c mt) (ha : SB X T W rest ms) (hb : SB X T W sts mv) : SS X T W (.If c rest sts pos) (mIfS mt ms mv) :=
  ⟨PS.imp (ps_if hc.pt ha.ps hb.ps) fun D σ H ⟨av, r, e, m, re, rm, h⟩ => ⟨av, r, e, m, re, rm, okR_imp (okS_sB re h) fun k m1 h r1 H1 g1 rm1 => by
    cases k with
    | true => exact iteT ⟨av, r1, e, m1, re.grow g1, rm1, h.grow g1⟩
    | false => exact iteF ⟨av, r1, e, m1, re.grow g1, rm1, h.grow g1⟩⟩⟩

/-! ### targets -/
abbrev MG := PV → Env → Mem → Res Env
/-- outside of the slots ts nothing is stored -/
def Agree (ts : List Nat) (s s' : L2.St) : Prop := s.length = s'.length ∧ ∀ j, j ∉ ts → s'[j]? = s[j]?
theorem Agree.refl {ts : List Nat} {s : L2.St} : Agree ts s s := ⟨rfl, fun _ _ => rfl⟩
theorem Agree.trans {ts : List Nat} {s s' s2 : L2.St} (a : Agree ts s s') (b : Agree ts s' s2) : Agree ts s s2 := ⟨a.1.trans b.1, fun j n => (b.2 j n).trans (a.2 j n)⟩
theorem Agree.mono {ts us : List Nat} {s s' : L2.St} (a : Agree ts s s') (h : ∀ j ∈ ts, j ∈ us) : Agree us s s' := ⟨a.1, fun j n => a.2 j fun z => n (h j z)⟩
def KG (T : Tx) (av : Av) (r : List Addr) (H : Hp) (ts : List Nat) (σ : L2.St) (Q : L2.St → Hp → Prop) (e' : Env) (m' : Mem) : Prop := ∀ r' H' σ', Grow r H r' H' → RM T av r' H' m' → RE T av r' H' e' σ' → Agree ts σ σ' → Q σ' H'
def tG (T : Tx) (ts : List Nat) (mg : MG) : TG := fun v σ H Q => ∃ av r e m x, RE T av r H e σ ∧ RM T av r H m ∧ RV T av r H x v ∧ okR T av r H (fun _ _ _ => False) (KG T av r H ts σ Q) (mg x e m)
structure SG (X : Cx) (T : Tx) (ts : List Nat) (tg : Expr) (mg : MG) : Prop where pg : PG X tg (tG T ts mg)
abbrev MGs := List PV → Env → Mem → Res Env
def tGs (T : Tx) (ts : List Nat) (mg : MGs) : TGs := fun vs σ H Q => ∃ av r e m xs, RE T av r H e σ ∧ RM T av r H m ∧ RVs T av r H xs vs ∧ okR T av r H (fun _ _ _ => False) (KG T av r H ts σ Q) (mg xs e m)
structure SGs (X : Cx) (T : Tx) (ts : List Nat) (tg : List Expr) (mg : MGs) : Prop where pgs : PGs X tg (tGs T ts mg)
theorem PG.imp {tg : Expr} {t t' : TG} (h : PG X tg t) (f : ∀ v σ H Q, t' v σ H Q → t v σ H Q) : PG X tg t' := ⟨fun pins s σ H x u Q I rx q => h.run pins s σ H x u Q I rx (f x σ H Q q)⟩
theorem PGs.imp {tg : List Expr} {t t' : TGs} (h : PGs X tg t) (f : ∀ v σ H Q, t' v σ H Q → t v σ H Q) : PGs X tg t' := ⟨fun pins s σ H x u Q I rx q => h.run pins s σ H x u Q I rx (f x σ H Q q)⟩
def gN (i : Nat) : MG := fun x e m => .ok (e.set i (some x)) m
theorem agree_set {i : Nat} {s : L2.St} {v : Option V} : Agree [i] s (s.set i v) := ⟨(List.length_set ..).symm, fun j n => List.getElem?_set_ne (fun z => n (by simp [z]))⟩
theorem sg_name (i : Nat) {x : Str} (hN : X.N.Nodup) (hi : X.N[i]? = some x) (hx : Loc X.env.scope x) (hf : X.fn x = true ∨ X.env.scope.names.lookup x = some .local := by first | exact .inl rfl | exact .inr rfl) : SG X T [i] (.Name x pos) (gN i) :=
  ⟨PG.imp (pg_name hN hi hx hf) fun v σ H Q ⟨av, r, e, m, x, re, rm, rv, h⟩ => h r H _ .refl rm (re.set rv i) agree_set⟩
def gsNil : MGs := fun xs e m => match xs with
  | [] => .ok e m
  | _ => .bad
def gsCons (g : MG) (gs : MGs) : MGs := fun xs e m => match xs with
  | x :: xs => (g x e m).bind fun e1 m1 => gs xs e1 m1
  | [] => .bad
theorem sgs_nil : SGs X T [] [] gsNil := ⟨PGs.imp pgs_nil fun vs σ H Q ⟨av, r, e, m, xs, re, rm, rv, h⟩ => by
  cases xs with
  | nil =>
    unfold RVs at rv
    exact ⟨rv, h r H _ .refl rm re .refl⟩
  | cons _ _ => exact h.elim⟩
theorem sgs_cons {ts us : List Nat} {t : Expr} {tg : List Expr} {g : MG} {gs : MGs} (h1 : SG X T ts t g) (h2 : SGs X T us tg gs) (hs : (assignEach (t :: tg) X.env).map (·.2) = assign t X.env :: (assignEach tg X.env).map (·.2) := by rfl) : SGs X T (ts ++ us) (t :: tg) (gsCons g gs) :=
  ⟨PGs.imp (pgs_cons h1.pg h2.pgs hs) fun vs σ H Q ⟨av, r, e, m, xs, re, rm, rv, h⟩ => by
    cases xs with
    | nil => exact h.elim
    | cons x xs =>
      unfold RVs at rv
      obtain ⟨v, ws, rfl, rx, rxs⟩ := rv
      refine ⟨v, ws, rfl, av, r, e, m, x, re, rm, rx, okR_imp (okR_bind h) fun e1 m1 h r1 H1 σ1 g1 rm1 re1 ag1 => ?_⟩
      exact ⟨av, r1, e1, m1, xs, re1, rm1, rxs.grow g1, okR_grow g1 (fun e2 m2 h r2 H2 σ2 g2 rm2 re2 ag2 => h r2 H2 σ2 (g1.trans g2) rm2 re2 ((ag1.mono fun j hj => List.mem_append_left _ hj).trans (ag2.mono fun j hj => List.mem_append_right _ hj))) h⟩⟩
def gTupM (n : Nat) (gs : MGs) : MG := fun x e m => match x with
  | .tup xs => if xs.length == n then gs xs e m else .bad
  | _ => .bad
theorem sg_tup {ts : List Nat} {es : List Expr} {k n : Nat} {gs : MGs} (hK : X.K = T.K) (hc : X.calm = true) (h : SGs X T ts es gs) (hn : (assignEach es X.env).length = n := by rfl) (hst : (assignEach es X.env).findIdx? (·.1) = none := by rfl) : SG X T ts (.Tuple es k pos) (gTupM n gs) :=
  ⟨PG.imp (pg_tup (n := n) hc h.pgs hn hst) fun v σ H Q ⟨av, r, e, m, x, re, rm, rv, h⟩ => by
    unfold gTupM at h
    split at h
    · rename_i xs
      split at h
      · rename_i hl
        obtain ⟨a, vs, rfl, ha, hv⟩ := tup_ok hK rv
        exact ⟨a, vs, rfl, ha, by rw [hv.length]; exact eq_of_beq hl, av, r, e, m, xs, re, rm, hv, h⟩
      · exact h.elim
    · exact h.elim⟩
def mAsg (ma : ME) (g : MG) : MS := fun e m => sB (ma e m) e fun v m1 => match g v e m1 with
  | .ok e1 m2 => .nx e1 m2
  | _ => .bad
theorem ss_asg {ts : List Nat} {tg : Expr} {g : MG} (ha : SE X T W a ma) (hg : SG X T ts tg g) (hs : swapsWithSole [tg] a pos.line X.env = pure false := by rfl) (hw : swappedStores [tg] a X.env = pure none := by rfl) (h1 : (assignEach [tg] X.env).map (·.2) = [assign tg X.env] := by rfl) : SS X T W (.Assign [tg] a pos) (mAsg ma g) :=
  ⟨PS.imp (ps_asg ha.pe hg.pg hs hw h1) fun D σ H ⟨av, r, e, m, re, rm, h⟩ => ⟨av, r, e, m, re, rm, okR_imp (okS_sB re h) fun v m1 h r1 H1 w g1 rm1 rv => by
    refine ⟨av, r1, e, m1, v, re.grow g1, rm1, rv, ?_⟩
    split at h
    · rename_i e1 m2 hg
      rw [hg]
      exact fun r2 H2 σ2 g2 rm2 re2 _ => h r2 H2 σ2 (g1.trans g2) rm2 re2
    · exact h.elim⟩⟩
def mSet (i : Nat) (ma : ME) : MS := fun e m => sB (ma e m) e fun v m1 => .nx (e.set i (some v)) m1
theorem ss_set (i : Nat) {x : Str} {pos' : Pos} (hN : X.N.Nodup) (hi : X.N[i]? = some x) (hx : Loc X.env.scope x) (ha : SE X T W a ma) (hs : swapsWith a (some (.Name x pos')) pos.line X.env = pure false := by rfl)
    (hf : X.fn x = true ∨ X.env.scope.names.lookup x = some .local := by first | exact .inl rfl | exact .inr rfl) : SS X T W (.Assign [.Name x pos'] a pos) (mSet i ma) :=
  ⟨PS.imp (ps_set hN hi hx ha.pe hs hf) fun D σ H ⟨av, r, e, m, re, rm, h⟩ => ⟨av, r, e, m, re, rm, okR_imp (okS_sB re h) fun v m1 h r1 H1 w g1 rm1 rv => h r1 H1 _ g1 rm1 ((re.grow g1).set rv i)⟩⟩

/-! ### what is walked -/
abbrev MI := Mem → Nat → Option (Option PV)
/-- the iterator J yields what it tells, from (r, H) on -/
def IOk (T : Tx) (av : Av) (r : List Addr) (H : Hp) (it : MI) (J : It) : Prop := ∀ (av' : Av) (r' : List Addr) (H' : Hp) (m' : Mem) (i : Nat), (∀ a, av' a → av a ∨ ¬ Hard H a) → GrowA av' r H r' H' → RM T av' r' H' m' → match it m' i with
  | none => True
  | some none => J.stop i H'
  | some (some x) => J.go i H' ∧ ∀ v H2, J.yld i H' v H2 → ∃ r2, Grow r' H' r2 H2 ∧ RM T av' r2 H2 m' ∧ RV T av' r2 H2 x v
def KI (T : Tx) (av : Av) (r : List Addr) (H : Hp) (R : It → Hp → Prop) (it : MI) (m' : Mem) : Prop := ∀ r' H' J, Grow r H r' H' → RM T av r' H' m' → IOk T av r' H' it J → R J H'
def tI (T : Tx) (W : WX) (mi : Env → Mem → Res MI) : TI := fun σ H R => ∃ av r e m, RE T av r H e σ ∧ RM T av r H m ∧ okR T av r H (fun c d H' => W c d σ H') (KI T av r H R) (mi e m)
structure SI (X : Cx) (T : Tx) (W : WX) (tg iter : Expr) (mi : Env → Mem → Res MI) : Prop where pi : PI X tg iter (tI T W mi)
theorem PI.imp {tg iter : Expr} {t t' : TI} (h : PI X tg iter t) (f : ∀ σ H R, t' σ H R → t σ H R) : PI X tg iter t' := ⟨fun pins s σ H R I q => h.run pins s σ H R I (f σ H R q)⟩
def valsI (xs : List PV) : MI := fun _ i => some xs[i]?
def memI (j : Nat) : MI := fun m i => match m[j]? with
  | some (.lst xs) => some xs[i]?
  | _ => none
/-- a tuple -/
def mIT (ma : ME) : Env → Mem → Res MI := fun e m => (ma e m).bind fun v m1 => match v with
  | .tup xs => .ok (valsI xs) m1
  | _ => .bad
/-- a list -/
def mIL (ma : ME) : Env → Mem → Res MI := fun e m => (ma e m).bind fun v m1 => match v with
  | .lst xs => .ok (valsI xs) m1
  | .ref j => match m1[j]? with
    | some (.lst _) => .ok (memI j) m1
    | _ => .bad
  | _ => .bad
theorem iok_tup (hK : X.K = T.K) {xs : List PV} {v : V} (h : RV T av r H (.tup xs) v) : ∃ a, v = .ref a ∧ (∃ vs, SqT X.K H a vs) ∧ IOk T av r H (valsI xs) (Itt X.K a) := by
  have h0 := h
  obtain ⟨a, vs, rfl, ha, hv⟩ := tup_ok hK h
  refine ⟨a, rfl, ⟨vs, ha⟩, fun av' r' H' m' i hw g rm => ?_⟩
  have h1 := (h0.widen hw).growA g
  obtain ⟨a', vs', e, ha', hv'⟩ := tup_ok hK h1
  cases e
  show match valsI xs m' i with
    | none => True
    | some none => _
    | some (some x) => _
  unfold valsI
  cases q : xs[i]? with
  | none => exact ⟨vs', ha', by rw [hv'.length]; exact List.getElem?_eq_none_iff.mp q⟩
  | some x =>
    obtain ⟨w, hw', rw'⟩ := hv'.get q
    exact ⟨⟨vs', w, ha', hw'⟩, fun v H2 y => by
      obtain ⟨rfl, y⟩ := y
      have e : some v = some w := (y vs' ha').symm.trans hw'
      cases e
      exact ⟨r', .refl, rm, rw'⟩⟩
theorem iok_lst {xs : List PV} {v : V} (h : RV T av r H (.lst xs) v) : ∃ a, v = .ref a ∧ (∃ vs, SqL X.K H a vs) ∧ IOk T av r H (valsI xs) (Itl X.K a) := by
  have h0 := h
  unfold RV at h
  obtain ⟨a, vs, rfl, o, ha, hv⟩ := h
  refine ⟨a, rfl, ⟨vs, .inl ha⟩, fun av' r' H' m' i hw g rm => ?_⟩
  have h1 := (h0.widen hw).growA g
  unfold RV at h1
  obtain ⟨a', vs', e, o', ha', hv'⟩ := h1
  cases e
  show match valsI xs m' i with
    | none => True
    | some none => _
    | some (some x) => _
  unfold valsI
  cases q : xs[i]? with
  | none => exact ⟨vs', .inl ha', by rw [hv'.length]; exact List.getElem?_eq_none_iff.mp q⟩
  | some x =>
    obtain ⟨w, hw', rw'⟩ := hv'.get q
    exact ⟨⟨vs', w, .inl ha', hw'⟩, fun v H2 y => by
      obtain ⟨rfl, y⟩ := y
      have e : some v = some w := (y vs' (.inl ha')).symm.trans hw'
      cases e
      exact ⟨r', .refl, rm, rw'⟩⟩
theorem iok_mem {j : Nat} {xs : List PV} {v : V} (rm : RM T av r H m) (h : RV T av r H (.ref j) v) (hx : m[j]? = some (.lst xs)) : ∃ a, v = .ref a ∧ (∃ vs, SqL X.K H a vs) ∧ IOk T av r H (memI j) (Itl X.K a) := by
  unfold RV at h
  obtain ⟨a, h1, rfl⟩ := h
  obtain ⟨vs, ha, hv⟩ := rm.ob j _ a hx h1
  refine ⟨a, rfl, ⟨vs, .inl (.inl ha)⟩, fun av' r' H' m' i hw g rm' => ?_⟩
  cases hq : m'[j]? with
  | none => simp only [memI, hq]
  | some o =>
    cases o with
    | ins _ _ => simp only [memI, hq]
    | dtt _ _ => simp only [memI, hq]
    | dnn _ _ => simp only [memI, hq]
    | dct _ _ => simp only [memI, hq]
    | lst ys =>
      obtain ⟨vs', ha', hv'⟩ := rm'.ob j _ a hq (get_growA g h1)
      simp only [memI, hq]
      cases q : ys[i]? with
      | none => exact ⟨vs', .inl (.inl ha'), by rw [hv'.length]; exact List.getElem?_eq_none_iff.mp q⟩
      | some x =>
        obtain ⟨w, hw', rw'⟩ := hv'.get q
        exact ⟨⟨vs', w, .inl (.inl ha'), hw'⟩, fun v H2 y => by
          obtain ⟨rfl, y⟩ := y
          have e : some v = some w := (y vs' (.inl (.inl ha'))).symm.trans hw'
          cases e
          exact ⟨r', .refl, rm', rw'⟩⟩
end M

namespace M
open PySem PySem.Spec PyProof.Rows L2
variable {X : Cx} {T : Tx} {W : WX} {a b c : Expr} {ma mb mc : ME} {mt mu : MT} {ms mv : MS} {pos : Pos} {st : Stmt} {rest sts : List Stmt}
variable {av av' : Av} {r r' r2 : List Addr} {H H' H2 : Hp} {m m' : Mem} {tg iter : Expr}

theorem si_tup (hK : X.K = T.K) (ha : SE X T W a ma) : SI X T W tg a (mIT ma) :=
  ⟨PI.imp (pi_tup ha.pe) fun σ H R ⟨av, r, e, m, re, rm, h⟩ => ⟨av, r, e, m, re, rm, okR_imp (okR_bind h) fun v m1 h r1 H1 w g1 rm1 rv => by
    split at h
    · obtain ⟨a, rfl, ha, iok⟩ := iok_tup (X := X) hK rv
      exact ⟨a, rfl, ha, h r1 H1 _ g1 rm1 iok⟩
    · exact h.elim⟩⟩
theorem si_lst (ha : SE X T W a ma) : SI X T W tg a (mIL ma) :=
  ⟨PI.imp (pi_list ha.pe) fun σ H R ⟨av, r, e, m, re, rm, h⟩ => ⟨av, r, e, m, re, rm, okR_imp (okR_bind h) fun v m1 h r1 H1 w g1 rm1 rv => by
    split at h
    · obtain ⟨a, rfl, ha, iok⟩ := iok_lst (X := X) rv
      exact ⟨a, rfl, ha, h r1 H1 _ g1 rm1 iok⟩
    · split at h
      · rename_i j _ xs hx
        obtain ⟨a, rfl, ha, iok⟩ := iok_mem (X := X) rm1 rv hx
        exact ⟨a, rfl, ha, h r1 H1 _ g1 rm1 iok⟩
      · exact h.elim
    · exact h.elim⟩⟩
def rngI (lo : Int) (n : Nat) : MI := fun _ i => some (if i < n then some (.int (lo + i)) else none)
theorem iok_rng {lo : Int} {n : Nat} : IOk T av r H (rngI lo n) (Itr lo n) := fun av' r' H' m' i hw g rm => by
  unfold rngI
  by_cases h : i < n
  · rw [if_pos h]
    exact ⟨h, fun v H2 y => by
      obtain ⟨rfl, rfl⟩ := y
      exact ⟨r', .refl, rm, rv_int⟩⟩
  · rw [if_neg h]
    exact Nat.not_lt.mp h
def big62 (i : Int) : Bool := decide (-(2 ^ 62) ≤ i) && decide (i < 2 ^ 62)
theorem big62_ok {i : Int} (h : big62 i = true) : -(2 ^ 62) ≤ i ∧ i < 2 ^ 62 := by
  unfold big62 at h
  rw [Bool.and_eq_true, decide_eq_true_eq, decide_eq_true_eq] at h
  exact h
def mIR1 (mr : MA) : Env → Mem → Res MI := fun e m => (mr e m).bind fun vs m1 => match vs with
  | [.int j] => if big62 j then .ok (rngI 0 j.toNat) m1 else .bad
  | _ => .bad
def mIR2 (mr : MA) : Env → Mem → Res MI := fun e m => (mr e m).bind fun vs m1 => match vs with
  | [.int i, .int j] => if big62 i && big62 j then .ok (rngI i (j - i).toNat) m1 else .bad
  | _ => .bad
theorem si_range1 {mr : MA} {p : Pos} (hg : Gl X "range") (hm : X.mg "range" = none) (ha : SA X T W [a] mr) (hs : starEach [a] X.env = [(false, eval a X.env)] := by rfl) : SI X T W tg (.Call (.Name "range" p) [a] [] pos) (mIR1 mr) :=
  ⟨PI.imp (pi_range1 hg hm ha.pa hs) fun σ H R ⟨av, r, e, m, re, rm, h⟩ => ⟨av, r, e, m, re, rm, okR_imp (okR_bind h) fun vs m1 h r1 H1 ws g1 rm1 rv => by
    split at h
    · rename_i j
      split at h
      · rename_i hb
        obtain ⟨w, rfl, hj⟩ := rvs1 rv
        obtain ⟨h1, h2⟩ := big62_ok hb
        exact ⟨j, by rw [hj.int'], h1, h2, h r1 H1 _ g1 rm1 iok_rng⟩
      · exact h.elim
    · exact h.elim⟩⟩
theorem si_range2 {mr : MA} {p : Pos} (hg : Gl X "range") (hm : X.mg "range" = none) (ha : SA X T W [a, b] mr) (hs : starEach [a, b] X.env = [(false, eval a X.env), (false, eval b X.env)] := by rfl) (hs2 : starEach [b] X.env = [(false, eval b X.env)] := by rfl) :
    SI X T W tg (.Call (.Name "range" p) [a, b] [] pos) (mIR2 mr) :=
  ⟨PI.imp (pi_range2 hg hm ha.pa hs hs2) fun σ H R ⟨av, r, e, m, re, rm, h⟩ => ⟨av, r, e, m, re, rm, okR_imp (okR_bind h) fun vs m1 h r1 H1 ws g1 rm1 rv => by
    split at h
    · rename_i i j
      split at h
      · rename_i hb
        rw [Bool.and_eq_true] at hb
        obtain ⟨w, u, rfl, hi, hj⟩ := rvs2 rv
        obtain ⟨h1, h2⟩ := big62_ok hb.1
        obtain ⟨h3, h4⟩ := big62_ok hb.2
        exact ⟨i, j, by rw [hi.int', hj.int'], ⟨h1, h2, h3, h4⟩, h r1 H1 _ g1 rm1 iok_rng⟩
      · exact h.elim
    · exact h.elim⟩⟩

/-! ### for -/
def forL (mg : MG) (body : MS) (it : MI) : Nat → Nat → Env → Mem → SRes
  | 0, _, _, _ => .bad
  | n + 1, i, e, m => match it m i with
    | none => .bad
    | some none => .nx e m
    | some (some x) => match mg x e m with
      | .ok e1 m1 => match body e1 m1 with
        | .nx e2 m2 => forL mg body it n (i + 1) e2 m2
        | .ct e2 m2 => forL mg body it n (i + 1) e2 m2
        | .bk e2 m2 => .nx e2 m2
        | x => x
      | _ => .bad
def FUEL : Nat := 1000000
def mFor (mi : Env → Mem → Res MI) (mg : MG) (body : MS) : MS := fun e m => sB (mi e m) e fun it m1 => forL mg body it FUEL 0 e m1
theorem okS_turn {D D' : Ends} {f : Env → Mem → SRes} (hn : ∀ e1 m1 r' H' σ', okS T av r H W D (f e1 m1) → Grow r H r' H' → RM T av r' H' m1 → RE T av r' H' e1 σ' → D'.nx σ' H') (hr : D'.rt = D.rt) (hb : D'.bk = D.nx) (hc : D'.ct = D'.nx) :
    ∀ {x : SRes}, okS T av r H W D (match x with
      | .nx e2 m2 => f e2 m2
      | .ct e2 m2 => f e2 m2
      | .bk e2 m2 => .nx e2 m2
      | x => x) → okS T av r H W D' x
  | .nx _ _, h => fun r2 H2 σ2 g rm re => hn _ _ r2 H2 σ2 h g rm re
  | .ct _ _, h => fun r2 H2 σ2 g rm re => hc ▸ hn _ _ r2 H2 σ2 h g rm re
  | .bk _ _, h => fun r2 H2 σ2 g rm re => hb ▸ h r2 H2 σ2 g rm re
  | .rt _ _, h => fun r2 H2 w g rm re => hr ▸ h r2 H2 w g rm re
  | .exc _ _ _ _, h => h
  | .bad, h => h
theorem ss_for {ts : List Nat} {mi : Env → Mem → Res MI} {mg : MG} (hp : PassesOwn (model X.prog X.w) X.A X.env X.xe) (hc : X.calm = true) (hi : SI X T W tg iter mi) (hg : SG X T ts tg mg) (hb : SB X T W rest ms) (hs : ∀ x, foldedSetIterable iter X.env x = pure x := by intro _; rfl) :
    SS X T W (.For tg iter rest [] pos) (mFor mi mg ms) :=
  ⟨PS.imp (ps_for hp hc hi.pi hg.pg hb.ps hs) fun D σ H ⟨av, r, e, m, re, rm, h⟩ => ⟨av, r, e, m, re, rm, okR_imp (okS_sB re h) fun it m1 h r1 H1 J g1 rm1 iok => by
    refine ⟨fun i n σ2 H2 => ∃ r2 e2 m2, Grow r1 H1 r2 H2 ∧ RE T av r2 H2 e2 σ2 ∧ RM T av r2 H2 m2 ∧ okS T av r2 H2 W D (forL mg ms it n i e2 m2), ⟨FUEL, r1, e, m1, .refl, re.grow g1, rm1, h.grow g1⟩, fun i n σ2 H2 hW => ?_⟩
    obtain ⟨r2, e2, m2, g2, re2, rm2, h2⟩ := hW
    cases n with
    | zero => exact h2.elim
    | succ n =>
      have hio := iok av r2 H2 m2 i (fun _ z => .inl z) g2.toA rm2
      unfold forL at h2
      split at h2
      · exact h2.elim
      · rename_i hit
        rw [hit] at hio
        exact .inl ⟨hio, h2 r2 H2 σ2 .refl rm2 re2⟩
      · rename_i x hit
        rw [hit] at hio
        refine .inr ⟨hio.1, fun σ' H' => ∃ m', m' < n + 1 ∧ ∃ r3 e3 m3, Grow r1 H1 r3 H' ∧ RE T av r3 H' e3 σ' ∧ RM T av r3 H' m3 ∧ okS T av r3 H' W D (forL mg ms it m' (i + 1) e3 m3), fun σ' H' h => h, fun v H3 y => ?_⟩
        obtain ⟨r3, g3, rm3, rv3⟩ := hio.2 v H3 y
        refine ⟨av, r3, e2, m2, x, re2.grow g3, rm3, rv3, ?_⟩
        split at h2
        · rename_i e4 m4 hmg
          rw [hmg]
          intro r4 H4 σ4 g4 rm4 re4 _
          refine ⟨av, r4, e4, m4, re4, rm4, ?_⟩
          have g34 := g3.trans g4
          refine okS_turn (D := D) (f := forL mg ms it n (i + 1)) (fun e5 m5 r5 H5 σ5 h g5 rm5 re5 => ?_) ?_ ?_ ?_ (h2.grow g34)
          · exact ⟨n, Nat.lt_succ_self n, r5, e5, m5, (g2.trans g34).trans g5, re5, rm5, h.grow g5⟩
          · rfl
          · rfl
          · rfl
        · exact h2.elim⟩⟩

/-! ### while -/
def whL (t : MT) (body : MS) : Nat → Env → Mem → SRes
  | 0, _, _ => .bad
  | n + 1, e, m => sB (t e m) e fun b m1 => if b then match body e m1 with
      | .nx e2 m2 => whL t body n e2 m2
      | .ct e2 m2 => whL t body n e2 m2
      | .bk e2 m2 => .nx e2 m2
      | x => x
    else .nx e m1
def mWh (t : MT) (body : MS) : MS := fun e m => whL t body FUEL e m
theorem ss_while (hp : PassesOwn (model X.prog X.w) X.A X.env X.xe) (hc : ST X T W c mt) (hb : SB X T W rest ms) : SS X T W (.While c rest [] pos) (mWh mt ms) :=
  ⟨PS.imp (ps_while hp hc.pt hb.ps) fun D σ H ⟨av, r, e, m, re, rm, h⟩ => by
    refine ⟨fun n σ2 H2 => ∃ r2 e2 m2, Grow r H r2 H2 ∧ RE T av r2 H2 e2 σ2 ∧ RM T av r2 H2 m2 ∧ okS T av r2 H2 W D (whL mt ms n e2 m2), ⟨FUEL, r, e, m, .refl, re, rm, h⟩, fun n σ2 H2 hW => ?_⟩
    obtain ⟨r2, e2, m2, g2, re2, rm2, h2⟩ := hW
    cases n with
    | zero => exact h2.elim
    | succ n =>
      unfold whL at h2
      refine ⟨av, r2, e2, m2, re2, rm2, okR_imp (okS_sB re2 h2) fun k m3 h r3 H3 g3 rm3 => ?_⟩
      cases k with
      | true =>
        refine iteT ⟨fun σ' H' => ∃ m', m' < n + 1 ∧ ∃ r4 e4 m4, Grow r H r4 H' ∧ RE T av r4 H' e4 σ' ∧ RM T av r4 H' m4 ∧ okS T av r4 H' W D (whL mt ms m' e4 m4), fun σ' H' h => h, av, r3, e2, m3, re2.grow g3, rm3, ?_⟩
        refine okS_turn (D := D) (f := whL mt ms n) (fun e5 m5 r5 H5 σ5 h g5 rm5 re5 => ?_) ?_ ?_ ?_ (okS.grow g3 h)
        · exact ⟨n, Nat.lt_succ_self n, r5, e5, m5, (g2.trans g3).trans g5, re5, rm5, h.grow g5⟩
        · rfl
        · rfl
        · rfl
      | false => exact iteF (h r3 H3 σ2 g3 rm3 (re2.grow g3))⟩

/-! ### comprehensions -/
def wipeE (e : Env) : List Nat → Env
  | [] => e
  | v :: vs => (wipeE e vs).set v none
theorem RE.setN {v : Option V} : ∀ {e : Env} {s : L2.St} (i : Nat), RE T av r H e s → RE T av r H (e.set i none) (s.set i v)
  | _, _, _, .nil => .nil
  | _, _, 0, .cons _ t => .cons (fun v' hv => by cases hv) t
  | _, _, i + 1, .cons h t => .cons h (RE.setN i t)
theorem RE.wipe {e : Env} {s : L2.St} (h : RE T av r H e s) : ∀ vs : List Nat, RE T av r H (wipeE e vs) (wipe s vs)
  | [] => h
  | v :: vs => (RE.wipe h vs).setN v
theorem wipe_get {s : L2.St} : ∀ {vs : List Nat} {j : Nat}, j ∈ vs → j < s.length → (wipe s vs)[j]? = some none
  | [], j, h, _ => by cases h
  | v :: vs, j, h, hl => by
    unfold wipe
    by_cases e : v = j
    · subst e
      rw [List.getElem?_set_self (by rw [wipe_length]; exact hl)]
    · rw [List.getElem?_set_ne e]
      exact wipe_get ((List.mem_cons.mp h).resolve_left (fun z => e z.symm)) hl
theorem wipe_off {s : L2.St} {j : Nat} : ∀ {vs : List Nat}, j ∉ vs → (wipe s vs)[j]? = s[j]?
  | [], _ => rfl
  | v :: vs, h => by
    unfold wipe
    rw [List.getElem?_set_ne (fun z => h (by simp [z]))]
    exact wipe_off (fun z => h (List.mem_cons_of_mem _ z))
theorem wipe_agree {s s' : L2.St} {vs : List Nat} (h : Agree vs (wipe s vs) s') : wipe s' vs = wipe s vs := by
  apply List.ext_getElem?
  intro j
  by_cases hj : j ∈ vs
  · by_cases hl : j < s.length
    · rw [wipe_get hj hl, wipe_get hj (by rw [← h.1, wipe_length]; exact hl)]
    · rw [List.getElem?_eq_none (by rw [wipe_length, ← h.1, wipe_length]; exact Nat.not_lt.mp hl), List.getElem?_eq_none (by rw [wipe_length]; exact Nat.not_lt.mp hl)]
  · rw [wipe_off hj, h.2 j hj]
structure STs (X : Cx) (T : Tx) (W : WX) (ifs : List Expr) (mt : MT) : Prop where pts : PTs X ifs (tT T W mt)
theorem PTs.imp {ifs : List Expr} {t t' : TT} (h : PTs X ifs t) (f : ∀ σ H Q, t' σ H Q → t σ H Q) : PTs X ifs t' := ⟨fun pins s σ H Q I q => h.run pins s σ H Q I (f σ H Q q)⟩
def mYes : MT := fun _ m => .ok true m
theorem sts_nil : STs X T W [] mYes := ⟨PTs.imp pts_nil fun σ H Q ⟨av, r, e, m, re, rm, h⟩ => h r H .refl rm⟩
theorem sts_one (h : ST X T W c mt) : STs X T W [c] mt := ⟨pts_one h.pt⟩
/-- nothing is raised -/
def Res.calm {s : Type} (x : Res s) : Res s := match x with
  | .ok v m => .ok v m
  | _ => .bad
theorem okR_calm {W0 W1 : Value → Option Addr → Hp → Prop} {s t : Type} {K : t → Mem → Prop} {f : s → Mem → Res t} {r1 : List Addr} {H1 : Hp} {av1 : Av} {x : Res s} (h : okR T av r H W0 K (x.calm.bind f)) : okR T av1 r1 H1 W1 (fun v m => okR T av r H W0 K (f v m)) x := by
  cases x with
  | ok v m => exact h
  | exc c ws m => exact h.elim
  | bad => exact h.elim
def lcL (mg : MG) (t : MT) (me : ME) (ew : Env) (it : MI) : Nat → Nat → List PV → Mem → Res (List PV)
  | 0, _, _, _ => .bad
  | n + 1, i, acc, m => match it m i with
    | none => .bad
    | some none => .ok acc.reverse m
    | some (some x) => (mg x ew m).calm.bind fun e1 m1 => (t e1 m1).calm.bind fun b m2 =>
      if b then (me e1 m2).calm.bind fun v m3 => if szOk acc.length then lcL mg t me ew it n (i + 1) (v :: acc) m3 else .bad
      else lcL mg t me ew it n (i + 1) acc m2
def mLc (mi : Env → Mem → Res MI) (mg : MG) (t : MT) (me : ME) (vs : List Nat) : MA := fun e m => (mi e m).bind fun it m1 => lcL mg t me (wipeE e vs) it FUEL 0 [] m1
abbrev Avp (av : Av) (p : Addr) : Av := fun a => av a ∨ a = p
mutual
theorem RV.rewrite {p : Addr} {o : HO} : ∀ (x : PV) {v : V}, RV T (Avp av p) r H x v → RV T (Avp av p) r (upd H p o) x v
  | .non, _, h => by unfold RV at *; exact h
  | .bl _, _, h => by unfold RV at *; exact h
  | .int _, _, h => by unfold RV at *; exact h
  | .str _, _, h => by unfold RV at *; exact h
  | .tup xs, _, h => by
    unfold RV at *
    obtain ⟨a, vs, e, h1, h2⟩ := h
    refine ⟨a, vs, e, ?_, RVs.rewrite xs h2⟩
    rcases h1 with ⟨o, d⟩ | k
    · refine .inl ⟨o, ?_⟩
      have ne : a ≠ p := fun z => o.1 (.inr z)
      rw [upd_ne ne]
      exact d
    · exact .inr k
  | .kst xs, _, h => by
    unfold RV at *
    obtain ⟨a, vs, e, k, h2⟩ := h
    exact ⟨a, vs, e, k, RVs.rewrite xs h2⟩
  | .lst xs, _, h => by
    unfold RV at *
    obtain ⟨a, vs, e, o, d, h2⟩ := h
    refine ⟨a, vs, e, o, ?_, RVs.rewrite xs h2⟩
    have ne : a ≠ p := fun z => o.1 (.inr z)
    rcases d with d | ⟨o', d⟩
    · exact .inl (by rw [upd_ne ne]; exact d)
    · exact .inr ⟨o', by rw [upd_ne ne]; exact d⟩
  | .ins c ws, _, h => by
    unfold RV at *
    obtain ⟨a, dx, fs, e, o, d, n, h2⟩ := h
    exact ⟨a, dx, fs, e, o, by rw [upd_ne (fun z => o.1 (.inr z))]; exact d, n, RVs.rewrite ws h2⟩
  | .dtt ks ws, _, h => by
    unfold RV at *
    obtain ⟨a, kvs, e, o, d, nm, h2⟩ := h
    refine ⟨a, kvs, e, o, ?_, nm, RVs.rewrite ws h2⟩
    have ne : a ≠ p := fun z => o.1 (.inr z)
    rcases d with d | ⟨o', d⟩
    · exact .inl (by rw [upd_ne ne]; exact d)
    · exact .inr ⟨o', by rw [upd_ne ne]; exact d⟩
  | .exn c ws, _, h => by
    unfold RV at *
    obtain ⟨a, dx, fs, ex, e, o, d, n, h2⟩ := h
    exact ⟨a, dx, fs, ex, e, o, by rw [upd_ne (fun z => o.1 (.inr z))]; exact d, n, RVs.rewrite ws h2⟩
  | .dct ks ws, _, h => by
    unfold RV at *
    obtain ⟨a, vs, e, o, d, h2⟩ := h
    refine ⟨a, vs, e, o, ?_, RVs.rewrite ws h2⟩
    have ne : a ≠ p := fun z => o.1 (.inr z)
    rcases d with ⟨kvs, d | ⟨o', d⟩, q⟩ | ⟨kvs, d | ⟨o', d⟩, q⟩
    · exact .inl ⟨kvs, .inl (by rw [upd_ne ne]; exact d), q⟩
    · exact .inl ⟨kvs, .inr ⟨o', by rw [upd_ne ne]; exact d⟩, q⟩
    · exact .inr ⟨kvs, .inl (by rw [upd_ne ne]; exact d), q⟩
    · exact .inr ⟨kvs, .inr ⟨o', by rw [upd_ne ne]; exact d⟩, q⟩
  | .glo _, _, h => by unfold RV at *; exact h
  | .ref i, _, h => by unfold RV at *; exact h
theorem RVs.rewrite {p : Addr} {o : HO} : ∀ (xs : List PV) {vs : List V}, RVs T (Avp av p) r H xs vs → RVs T (Avp av p) r (upd H p o) xs vs
  | [], _, h => by unfold RVs at *; exact h
  | x :: xs, _, h => by
    unfold RVs at *
    obtain ⟨v, ws, e, h1, h2⟩ := h
    exact ⟨v, ws, e, RV.rewrite x h1, RVs.rewrite xs h2⟩
end
/-- neither a table nor a code object -/
def Solid : Option HO → Prop
  | some (.tbl _) => False
  | some (.ext φ) => ∀ c q, HO.ext φ ≠ LamX.CodeO c q
  | _ => True
theorem nd_code {P : Program} {w : World} {p c : Addr} {xs : List (NestedKey × Addr × Value)} {q : Str} : HO.ext (NDict P w p xs) ≠ LamX.CodeO c q := fun z => by
  unfold LamX.CodeO at z
  injection z with z
  have g : ∃ (oc : Obj) (vs : Array Value) (t : Tok), ({ objs := Array.replicate (c + 1) { cls := .none, data := .fields #[.none, .str q 0] } } : Heap).get? c = some oc ∧ oc.data = .fields vs ∧ vs[1]? = some (.str q t) :=
    ⟨_, _, 0, by
      unfold Heap.get?
      rw [Array.getElem?_replicate, if_pos (Nat.lt_succ_self c)], rfl, rfl⟩
  have f : NDict P w p xs { objs := Array.replicate (c + 1) { cls := .none, data := .fields #[.none, .str q 0] } } := by rw [z]; exact g
  obtain ⟨_, o, es, ep, e1, _, e2, _⟩ := f
  unfold Heap.get? at e1
  rw [Array.getElem?_replicate] at e1
  by_cases y : p < c + 1
  · rw [if_pos y] at e1
    cases e1
    cases e2
  · rw [if_neg y] at e1
    cases e1
theorem tab_upd {p P : Addr} {o : HO} {q : Str} (hs : Solid (H p)) (t : LamX.TabS H P q) : LamX.TabS (upd H p o) P q := by
  obtain ⟨ps, h1, h2, h3⟩ := t
  refine ⟨ps, ?_, h2, fun pos cv hc => ?_⟩
  · rw [upd_ne (fun z => by rw [← z, h1] at hs; exact hs)]; exact h1
  · obtain ⟨c, e1, e2⟩ := h3 pos cv hc
    exact ⟨c, e1, by rw [upd_ne (fun z => by rw [← z, e2] at hs; exact hs c q rfl)]; exact e2⟩
theorem RM.rewrite {p : Addr} {o : HO} (hp : p ∉ r) (hs : Solid (H p)) (h : RM T (Avp av p) r H m) (ho : nTbl o := by trivial) (hu : nTup o := by trivial) : RM T (Avp av p) r (upd H p o) m :=
  ⟨h.len, h.nd, fun i x a h1 h2 => by
    have ne : a ≠ p := fun z => hp (z ▸ List.mem_of_getElem? h2)
    have q := h.ob i x a h1 h2
    cases x with
    | lst xs => obtain ⟨vs, h1, h2⟩ := q; exact ⟨vs, by rw [upd_ne ne]; exact h1, h2.rewrite⟩
    | ins c ws => obtain ⟨dx, fs, h1, h2, h3, h4⟩ := q; exact ⟨dx, fs, by rw [upd_ne ne]; exact h1, h2, h3.rewrite, h4⟩
    | dtt ks ws => obtain ⟨kvs, h1, h2, h3⟩ := q; exact ⟨kvs, by rw [upd_ne ne]; exact h1, h2, h3.rewrite⟩
    | dnn ks ws => obtain ⟨xs, vs, h1, h2, h3, h4, h5⟩ := q; exact ⟨xs, vs, by rw [upd_ne ne]; exact h1, h2, h3.rewrite, h4.rewrite, h5⟩
    | dct ks ws => obtain ⟨vs, h1, h2⟩ := q; exact ⟨vs, dm_upd ne h1, h2.rewrite⟩, fun q hq => tab_upd hs (h.tb q hq), fun a ha => by
    by_cases z : a = p
    · subst z; exact ⟨o, upd_same, ho⟩
    · obtain ⟨u, e, t⟩ := h.th a ha
      exact ⟨u, by rw [upd_ne z]; exact e, t⟩, fun a ha vs e => by
    by_cases z : a = p
    · subst z
      rw [upd_same] at e
      exact nTup_ne hu (Option.some.inj e)
    · rw [upd_ne z] at e
      exact h.nt a ha vs e⟩
theorem grow_rw {p : Addr} {o : HO} (hp : ¬ Hard H p) (g : Grow r H r' H') : Grow r H r' (upd H' p o) :=
  ⟨g.ext, fun b u e n t => by rw [upd_ne (fun z => hp ⟨u, by rw [← z]; exact e, nTbl_of t⟩)]; exact g.keep b u e n t, fun b e => by
    obtain ⟨u, q, t⟩ := g.there b e
    have ne : b ≠ p := fun z => hp (by rw [← z]; exact e)
    exact ⟨u, by rw [upd_ne ne]; exact q, t⟩⟩
theorem RVs.rev1 {x : PV} {v : V} : ∀ {acc : List PV} {vs : List V}, RVs T av r H acc.reverse vs → RV T av r H x v → RVs T av r H (x :: acc).reverse (vs ++ [v]) := fun {acc vs} h hx => by
  rw [List.reverse_cons]
  exact h.append (by unfold RVs; exact ⟨v, [], rfl, hx, by unfold RVs; rfl⟩)
theorem lc_read {ts vs0 : List Nat} {mi : Env → Mem → Res MI} {mg : MG} (hts : ts.all (fun j => vs0.contains j) = true) {σ : L2.St} {H : Hp} {Q : VK} (h : tF T W (mLc mi mg mt ma vs0) σ H Q) :
    tLc (tI T W mi) (tG T ts mg) (tT T (fun _ _ _ _ => False) mt) (tE T (fun _ _ _ _ => False) ma) vs0 σ H Q := by
  obtain ⟨av, r, e, m, re, rm, h⟩ := h
  exact
    ⟨av, r, e, m, re, rm, okR_imp (okR_bind h) fun it m1 h r1 H1 J g1 rm1 iok D hD => by
      have hwd : ∀ a, Avp av D a → av a ∨ ¬ Hard H1 a := fun a z => z.elim .inl fun z => .inr (by rw [z]; exact soft hD)
      refine ⟨fun i n H2 => ∃ r2 m2 acc vs, Grow r1 H1 r2 H2 ∧ D ∉ r2 ∧ H2 D = some (.lst vs) ∧ RM T (Avp av D) r2 H2 m2 ∧ RVs T (Avp av D) r2 H2 acc.reverse vs ∧ okR T av r H (fun c d H' => W c d σ H') (KF T av r H Q) (lcL mg mt ma (wipeE e (vs0)) it n i acc m2),
        ⟨FUEL, r1, m1, [], [], grow_upd hD, rm1.fresh hD, upd_same, rm1.away hD, by show RVs T _ _ _ [] []; unfold RVs; rfl, h⟩, fun i n H2 hW => ?_⟩
      obtain ⟨r2, m2, acc, vs, g2, nD, hl, rm2, rvs, h2⟩ := hW
      cases n with
      | zero => exact h2.elim
      | succ n =>
        have hio := iok (Avp av D) r2 H2 m2 i hwd g2.toA rm2
        unfold lcL at h2
        split at h2
        · exact h2.elim
        · rename_i hit
          rw [hit] at hio
          exact .inl ⟨hio, h2 r2 H2 D vs (g1.trans g2) (g1.none (soft hD)) nD hl rm2 rvs⟩
        · rename_i x hit
          rw [hit] at hio
          refine .inr ⟨hio.1, fun H' => ∃ m', m' < n + 1 ∧ ∃ r2 m2 acc vs, Grow r1 H1 r2 H' ∧ D ∉ r2 ∧ H' D = some (.lst vs) ∧ RM T (Avp av D) r2 H' m2 ∧ RVs T (Avp av D) r2 H' acc.reverse vs ∧ okR T av r H (fun c d H' => W c d σ H') (KF T av r H Q) (lcL mg mt ma (wipeE e (vs0)) it m' (i + 1) acc m2), fun H' h => h, fun v H3 y => ?_⟩
          obtain ⟨r3, g3, rm3, rv3⟩ := hio.2 v H3 y
          have reW : RE T (Avp av D) r3 H3 (wipeE e (vs0)) (wipe σ (vs0)) := (RE.map (fun x v q => ((q.grow g1).widen hwd).grow (g2.trans g3)) re).wipe _
          refine ⟨Avp av D, r3, _, m2, x, reW, rm3, rv3, okR_imp (okR_calm h2) fun e4 m4 h r4 H4 σ4 g4 rm4 re4 ag4 => ⟨?_, ?_⟩⟩
          · exact wipe_agree (ag4.mono fun j hj => by
              have q := List.all_eq_true.mp hts j hj
              rwa [List.contains_iff_mem] at q)
          · refine ⟨Avp av D, r4, e4, m4, re4, rm4, okR_imp (okR_calm h) fun b m5 h r5 H5 g5 rm5 => ?_⟩
            have g25 := (g3.trans g4).trans g5
            cases b with
            | true =>
              refine iteT ⟨Avp av D, r5, e4, m5, re4.grow g5, rm5, okR_imp (okR_calm h) fun z m6 h r6 H6 w g6 rm6 rw6 => ?_⟩
              have g26 := g25.trans g6
              split at h
              · rename_i hz
                have hl6 : H6 D = some (.lst vs) := g26.keep D _ hl nD (fun ps z => by cases z)
                have n6 : D ∉ r6 := by
                  obtain ⟨more, em, fm⟩ := g26.ext
                  rw [em]
                  intro hm
                  rcases List.mem_append.mp hm with q | q
                  · exact nD q
                  · exact fm D q ⟨_, hl, trivial⟩
                refine ⟨vs, hl6, by rw [rvs.length, List.length_reverse]; exact szOk_lt hz, n, Nat.lt_succ_self n, r6, m6, z :: acc, vs ++ [w], grow_rw (soft hD) (g2.trans g26), n6, upd_same, rm6.rewrite n6 (by rw [hl6]; trivial), (RVs.rev1 (rvs.grow g26) rw6).rewrite, h⟩
              · exact h.elim
            | false =>
              have n5 : D ∉ r5 := by
                obtain ⟨more, em, fm⟩ := g25.ext
                rw [em]
                intro hm
                rcases List.mem_append.mp hm with q | q
                · exact nD q
                · exact fm D q ⟨_, hl, trivial⟩
              exact iteF ⟨n, Nat.lt_succ_self n, r5, m5, acc, vs, g2.trans g25, n5, g25.keep D _ hl nD (fun ps z => by cases z), rm5, rvs.grow g25, h⟩⟩
theorem sf_lc {ifs : List Expr} {scope : Scope} {own : List (Str × Nat)} {ts : List Nat} {mi : Env → Mem → Res MI} {mg : MG} (hc : X.calm = true) (hN : X.N.Nodup) (hi : SI X T W tg iter mi) (ok : blkC X.N X.env.scope scope own = true)
    (hg : ∀ (s : Shared) (H : Hp) (C : Addr) (cl : List (Str × Addr)) (fp : List Addr), SG (X.blk s H scope (compEnvC scope cl C X.env) fp) T ts tg mg)
    (ht : ∀ (s : Shared) (H : Hp) (C : Addr) (cl : List (Str × Addr)) (fp : List Addr), STs (X.blk s H scope (compEnvC scope cl C X.env) fp) T (fun _ _ _ _ => False) ifs mt)
    (he : ∀ (s : Shared) (H : Hp) (C : Addr) (cl : List (Str × Addr)) (fp : List Addr), SE (X.blk s H scope (compEnvC scope cl C X.env) fp) T (fun _ _ _ _ => False) a ma)
    (hts : ts.all (fun j => (own.map (·.2)).contains j) = true) (hs : ∀ x, foldedSetIterable iter X.env x = pure x := by intro _; rfl) :
    SF X T W (.ListComp a [⟨tg, iter, ifs, 0⟩] scope pos) (mLc mi mg mt ma (own.map (·.2))) :=
  ⟨PE.imp (pe_lc hc hN hi.pi (blkOk_by ok) (fun s H C cl fp => (hg s H C cl fp).pg) (fun s H C cl fp => (ht s H C cl fp).pts) (fun s H C cl fp => (he s H C cl fp).pe) hs) fun σ H Q h => lc_read hts h⟩
/-- what a stored new list asks, as the list itself asks it -/
theorem set_lst {i : Nat} {D : Ends} {mf : MA} {σ : L2.St} {H : Hp} (h : tS T W (mSet i (mL mf)) D σ H) : tF T W mf σ H (fun x H1 => D.nx (σ.set i (some x)) H1) := by
  obtain ⟨av, r, e, m, re, rm, h⟩ := h
  refine ⟨av, r, e, m, re, rm, okR_imp (okR_bind (okS_sB re h)) fun vs m1 h r1 H1 p ws g1 hp np hl rm1 rvs => ?_⟩
  exact h r1 H1 _ g1 rm1.near ((re.grow g1).set (by unfold RV; exact ⟨p, ws, rfl, ⟨rm.freshB hp, np⟩, .inl hl, rvs.near⟩) i)
theorem set_new {i : Nat} {D : Ends} {mf : MA} {σ : L2.St} {H : Hp} (h : tS T W (mSet i (mN mf)) D σ H) : tF T W mf σ H (fun x H1 => D.nx (σ.set i (some x)) H1) := by
  obtain ⟨av, r, e, m, re, rm, h⟩ := h
  refine ⟨av, r, e, m, re, rm, okR_imp (okR_bind (okS_sB re h)) fun vs m1 h r1 H1 p ws g1 hp np hl rm1 rvs => ?_⟩
  have g2 := grow_held g1 hp
  exact h (r1 ++ [p]) H1 _ g2 (rm1.held np ⟨ws, hl, rvs⟩) ((re.grow g2).set (by unfold RV; exact ⟨p, by rw [← rm1.len]; simp, rfl⟩) i)
section
variable {i : Nat} {y : Str} {py spos : Pos} {ifs : List Expr} {scope : Scope} {own : List (Str × Nat)} {ts : List Nat} {mi : Env → Mem → Res MI} {mg : MG}
theorem lc_stmt {ms : MS} (hset : ∀ {D : Ends} {σ : L2.St} {H : Hp}, tS T W ms D σ H → tF T W (mLc mi mg mt ma (own.map (·.2))) σ H (fun x H1 => D.nx (σ.set i (some x)) H1))
    (hc : X.calm = true) (hN : X.N.Nodup) (hy : X.N[i]? = some y) (hyl : X.env.scope.names.lookup y = some .local) (hsw : swapsWith (.ListComp a [⟨tg, iter, ifs, 0⟩] scope pos) (some (.Name y py)) spos.line X.env = pure true)
    (hi : SI X T W tg iter mi) (ok : blkC X.N X.env.scope scope own = true)
    (hg : ∀ (s : Shared) (H : Hp) (C : Addr) (cl : List (Str × Addr)) (fp : List Addr), SG (X.blk s H scope (compEnvC scope cl C X.env) fp) T ts tg mg)
    (ht : ∀ (s : Shared) (H : Hp) (C : Addr) (cl : List (Str × Addr)) (fp : List Addr), STs (X.blk s H scope (compEnvC scope cl C X.env) fp) T (fun _ _ _ _ => False) ifs mt)
    (he : ∀ (s : Shared) (H : Hp) (C : Addr) (cl : List (Str × Addr)) (fp : List Addr), SE (X.blk s H scope (compEnvC scope cl C X.env) fp) T (fun _ _ _ _ => False) a ma)
    (hts : ts.all (fun j => (own.map (·.2)).contains j) = true) (hs : ∀ x, foldedSetIterable iter X.env x = pure x := by intro _; rfl) :
    SS X T W (.Assign [.Name y py] (.ListComp a [⟨tg, iter, ifs, 0⟩] scope pos) spos) ms :=
  ⟨PS.imp (ps_setLc hc hN hy hyl hsw hi.pi (blkOk_by ok) (fun s H C cl fp => (hg s H C cl fp).pg) (fun s H C cl fp => (ht s H C cl fp).pts) (fun s H C cl fp => (he s H C cl fp).pe) hs) fun D σ H h => lc_read hts (hset h)⟩
end
end M

namespace M
open PySem PySem.Spec PyProof.Rows L2
variable {X : Cx} {T : Tx} {W : WX} {a b c : Expr} {ma mb mc : ME} {mt mu : MT} {ms mv : MS} {pos : Pos} {st : Stmt} {rest sts : List Stmt}
variable {av av' : Av} {r r' r2 : List Addr} {H H' H2 : Hp} {m m' : Mem} {tg iter : Expr}

/-! ### the memory is written -/
theorem rd_out {p a : Addr} {o u : HO} (ne : a ≠ p) (d : Rd H a u) : Rd (upd H p o) a u := by
  rcases d with d | ⟨o', d⟩
  · exact .inl (by rw [upd_ne ne]; exact d)
  · exact .inr ⟨o', by rw [upd_ne ne]; exact d⟩
mutual
theorem RV.out {p : Addr} {o : HO} (hp : ∀ b, Out av r b → b ≠ p) : ∀ (x : PV) {v : V}, RV T av r H x v → RV T av r (upd H p o) x v
  | .non, _, h => by unfold RV at *; exact h
  | .bl _, _, h => by unfold RV at *; exact h
  | .int _, _, h => by unfold RV at *; exact h
  | .str _, _, h => by unfold RV at *; exact h
  | .tup xs, _, h => by
    unfold RV at *
    obtain ⟨a, vs, e, h1, h2⟩ := h
    refine ⟨a, vs, e, ?_, RVs.out hp xs h2⟩
    rcases h1 with ⟨o, d⟩ | k
    · exact .inl ⟨o, by rw [upd_ne (hp a o)]; exact d⟩
    · exact .inr k
  | .kst xs, _, h => by
    unfold RV at *
    obtain ⟨a, vs, e, k, h2⟩ := h
    exact ⟨a, vs, e, k, RVs.out hp xs h2⟩
  | .lst xs, _, h => by
    unfold RV at *
    obtain ⟨a, vs, e, o, d, h2⟩ := h
    exact ⟨a, vs, e, o, rd_out (hp a o) d, RVs.out hp xs h2⟩
  | .ins c ws, _, h => by
    unfold RV at *
    obtain ⟨a, dx, fs, e, o, d, n, h2⟩ := h
    exact ⟨a, dx, fs, e, o, by rw [upd_ne (hp a o)]; exact d, n, RVs.out hp ws h2⟩
  | .dtt ks ws, _, h => by
    unfold RV at *
    obtain ⟨a, kvs, e, o, d, nm, h2⟩ := h
    exact ⟨a, kvs, e, o, rd_out (hp a o) d, nm, RVs.out hp ws h2⟩
  | .exn c ws, _, h => by
    unfold RV at *
    obtain ⟨a, dx, fs, ex, e, o, d, n, h2⟩ := h
    exact ⟨a, dx, fs, ex, e, o, by rw [upd_ne (hp dx o)]; exact d, n, RVs.out hp ws h2⟩
  | .dct ks ws, _, h => by
    unfold RV at *
    obtain ⟨a, vs, e, o, d, h2⟩ := h
    refine ⟨a, vs, e, o, ?_, RVs.out hp ws h2⟩
    rcases d with ⟨kvs, d, q⟩ | ⟨kvs, d, q⟩
    · exact .inl ⟨kvs, rd_out (hp a o) d, q⟩
    · exact .inr ⟨kvs, rd_out (hp a o) d, q⟩
  | .glo _, _, h => by unfold RV at *; exact h
  | .ref i, _, h => by unfold RV at *; exact h
theorem RVs.out {p : Addr} {o : HO} (hp : ∀ b, Out av r b → b ≠ p) : ∀ (xs : List PV) {vs : List V}, RVs T av r H xs vs → RVs T av r (upd H p o) xs vs
  | [], _, h => by unfold RVs at *; exact h
  | x :: xs, _, h => by
    unfold RVs at *
    obtain ⟨v, ws, e, h1, h2⟩ := h
    exact ⟨v, ws, e, RV.out hp x h1, RVs.out hp xs h2⟩
end
theorem out_mem {p : Addr} (hp : p ∈ r) : ∀ b, Out av r b → b ≠ p := fun b o z => o.2 (z ▸ hp)
theorem RM.write {j : Nat} {p : Addr} {o : HO} {x : MO} (h : RM T av r H m) (hj : r[j]? = some p) (hs : Solid (H p)) (hx : RO T av r (upd H p o) x p) (ho : nTbl o := by trivial) : RM T av r (upd H p o) (m.set j x) := by
  have hp : p ∈ r := List.mem_of_getElem? hj
  refine ⟨by rw [List.length_set]; exact h.len, h.nd, fun i y a h1 h2 => ?_, fun q hq => tab_upd hs (h.tb q hq), fun a ha => ?_, fun a ha vs e => ?_⟩
  · by_cases e : i = j
    · subst e
      have e2 : a = p := Option.some.inj (h2.symm.trans hj)
      subst e2
      have hl : i < m.length := by rw [← h.len]; exact (List.getElem?_eq_some_iff.mp hj).1
      rw [List.getElem?_set_self hl] at h1
      cases h1
      exact hx
    · rw [List.getElem?_set_ne (Ne.symm e)] at h1
      have ne : a ≠ p := fun z => e (by
        subst z
        obtain ⟨l1, e1⟩ := List.getElem?_eq_some_iff.mp h2
        obtain ⟨l2, e2⟩ := List.getElem?_eq_some_iff.mp hj
        exact (List.getElem_inj h.nd).mp (e1.trans e2.symm))
      have q := h.ob i y a h1 h2
      cases y with
      | lst xs => obtain ⟨vs, h1, h2⟩ := q; exact ⟨vs, by rw [upd_ne ne]; exact h1, h2.out (out_mem hp)⟩
      | ins c ws => obtain ⟨dx, fs, h1, h2, h3, h4⟩ := q; exact ⟨dx, fs, by rw [upd_ne ne]; exact h1, h2, h3.out (out_mem hp), h4⟩
      | dtt ks ws => obtain ⟨kvs, h1, h2, h3⟩ := q; exact ⟨kvs, by rw [upd_ne ne]; exact h1, h2, h3.out (out_mem hp)⟩
      | dct ks ws => obtain ⟨vs, h1, h2⟩ := q; exact ⟨vs, dm_upd ne h1, h2.out (out_mem hp)⟩
      | dnn ks ws => obtain ⟨xs, vs, h1, h2, h3, h4, h5⟩ := q; exact ⟨xs, vs, by rw [upd_ne ne]; exact h1, h2, h3.out (out_mem hp), h4.out (out_mem hp), h5⟩
  · by_cases z : a = p
    · subst z; exact ⟨o, upd_same, ho⟩
    · obtain ⟨u, e, t⟩ := h.th a ha
      exact ⟨u, by rw [upd_ne z]; exact e, t⟩
  · by_cases z : a = p
    · subst z
      cases x with
      | lst xs => obtain ⟨us, h1, _⟩ := hx; rw [e] at h1; cases h1
      | ins c ws => obtain ⟨dx, fs, h1, _⟩ := hx; rw [e] at h1; cases h1
      | dtt ks ws => obtain ⟨kvs, h1, _⟩ := hx; rw [e] at h1; cases h1
      | dnn ks ws => obtain ⟨xs, us, h1, _⟩ := hx; rw [e] at h1; cases h1
      | dct ks ws =>
        obtain ⟨us, h1, _⟩ := hx
        rcases h1 with ⟨_, d, _⟩ | ⟨_, d, _⟩ <;> (rw [e] at d; cases d)
    · rw [upd_ne z] at e
      exact h.nt a ha vs e
theorem grow_write {p : Addr} {o : HO} (hp : p ∈ r) (ho : nTbl o := by trivial) : Grow r H r (upd H p o) :=
  ⟨⟨[], by simp, by simp⟩, fun b u e n _ => by rw [upd_ne (fun z => n (by rw [z]; exact hp))]; exact e, fun b e => by
    by_cases z : b = p
    · subst z; exact ⟨o, upd_same, ho⟩
    · obtain ⟨u, e, t⟩ := e
      exact ⟨u, by rw [upd_ne z]; exact e, t⟩⟩
/-- a list of the memory, as it is written -/
theorem RM.lst {j : Nat} {xs : List PV} {v : V} (h : RM T av r H m) (rv : RV T av r H (.ref j) v) (hx : m[j]? = some (.lst xs)) : ∃ p vs, v = .ref p ∧ r[j]? = some p ∧ H p = some (.lst vs) ∧ RVs T av r H xs vs := by
  unfold RV at rv
  obtain ⟨p, h1, rfl⟩ := rv
  obtain ⟨vs, h2, h3⟩ := h.ob j _ p hx h1
  exact ⟨p, vs, rfl, h1, h2, h3⟩
theorem RM.setL {j : Nat} {p : Addr} {ys : List PV} {ws : List V} (h : RM T av r H m) (hj : r[j]? = some p) (hs : Solid (H p)) (hv : RVs T av r H ys ws) : RM T av r (upd H p (.lst ws)) (m.set j (.lst ys)) :=
  h.write hj hs ⟨ws, upd_same, hv.out (out_mem (List.mem_of_getElem? hj))⟩
/-- a method of a built-in type: the receiver, the arguments, the memory -/
def MtK (X : Cx) (T : Tx) (Ty id : String) (f : PV → List PV → Mem → Res PV) : Prop :=
  ∃ rd : V → List V → Hp → VK → Prop, MtR X id rd ∧ ∀ {av : Av} {r : List Addr} {H : Hp} {m : Mem} {x : PV} {xs : List PV} {v : V} {vs : List V} {Q : VK}, RM T av r H m → RV T av r H x v → RVs T av r H xs vs → okR T av r H (fun _ _ _ => False) (KE T av r H Q) (f x xs m).calm → rd v vs H Q
def isLst (x : PV) (m : Mem) : Bool := (lstOf x m).isSome
def mMt (f : PV → List PV → Mem → Res PV) (ty : PV → Mem → Bool) (ma : ME) (mr : MA) : ME := fun e m => (ma e m).bind fun x m1 => if ty x m1 then (mr e m1).bind fun xs m2 => (f x xs m2).calm else .bad
theorem okR_W {W0 W1 : Value → Option Addr → Hp → Prop} {s : Type} {K : s → Mem → Prop} {x : Res s} (h : okR T av r H W0 K x.calm) : okR T av r H W1 K x.calm := by
  cases x with
  | ok v m => exact h
  | exc c ws m => exact h.elim
  | bad => exact h.elim
section
variable {Ty id : String} {name : Str} {es : List Expr} {mr : MA} {apos : Pos}
theorem ty_list {x : PV} {v : V} (rm : RM T av r H m) (rv : RV T av r H x v) (h : isLst x m = true) : tyV X.K "list" v H := by
  unfold isLst at h
  obtain ⟨xs, hx⟩ := Option.isSome_iff_exists.mp h
  obtain ⟨a, vs, rfl, ha, hv⟩ := lstOf_ok rm rv hx
  exact .inl ⟨rfl, vs, .inl ha⟩
theorem se_bm {f : PV → List PV → Mem → Res PV} {ty : PV → Mem → Bool} (pa : PlainAttrs Ty) (slot : Slot Ty name id) (hty : typeOf (.builtin id) = pure (.type "method_descriptor")) (hm : MtK X T Ty id f)
    (hT : ∀ {av : Av} {r : List Addr} {H : Hp} {m : Mem} {x : PV} {v : V}, RM T av r H m → RV T av r H x v → ty x m = true → tyV X.K Ty v H) (ho : SE X T W a ma) (ha : SA X T W (b :: es) mr)
    (hbase : attributeBase a name X.env (eval a X.env) = eval a X.env := by rfl)
    (hfew : ((backTo pos (starEach (b :: es) X.env)).all (fun x => !x.1) && (backToKw pos (keywordEach [] X.env)).all (fun x => x.1.isSome)
      && decide ((b :: es).length + ([] : List Keyword).length + (if ([] : List Keyword).isEmpty then 0 else 1) < 30)) = true := by rfl)
    (hline : (apos.endLine == pos.line) = true := by rfl) (hs : starEach (b :: es) X.env = (false, eval b X.env) :: starEach es X.env := by rfl) (hplain : (backTo pos (starEach es X.env)).any (·.1) = false := by rfl) :
    SE X T W (.Call (.Attribute a name apos) (b :: es) [] pos) (mMt f ty ma mr) := by
  obtain ⟨rd, h1, h2⟩ := hm
  exact ⟨PE.imp (pe_bm pa slot hty h1 ho.pe ha.pa hbase hfew hline hs hplain) fun σ H Q ⟨av, r, e, m, re, rm, h⟩ =>
    ⟨av, r, e, m, re, rm, okR_imp (okR_bind h) fun x m1 h r1 H1 v g1 rm1 rv => by
      split at h
      · rename_i ht
        refine ⟨hT rm1 rv ht, av, r1, e, m1, re.grow g1, rm1, okR_grow g1 (fun xs m2 h r2 H2 vs g2 rm2 rvs => ?_) (okR_bind h)⟩
        exact h2 rm2 (rv.grow g2) rvs (okR_W (okR_grow (g1.trans g2) (fun _ _ k => KE.grow (g1.trans g2) k) h))
      · exact h.elim⟩⟩
theorem se_bm0 {f : PV → List PV → Mem → Res PV} {ty : PV → Mem → Bool} (pa : PlainAttrs Ty) (slot : Slot Ty name id) (hty : typeOf (.builtin id) = pure (.type "method_descriptor")) (hm : MtK X T Ty id f)
    (hT : ∀ {av : Av} {r : List Addr} {H : Hp} {m : Mem} {x : PV} {v : V}, RM T av r H m → RV T av r H x v → ty x m = true → tyV X.K Ty v H) (ho : SE X T W a ma)
    (hbase : attributeBase a name X.env (eval a X.env) = eval a X.env := by rfl) (hline : (apos.endLine == pos.line) = true := by rfl) :
    SE X T W (.Call (.Attribute a name apos) [] [] pos) (mMt f ty ma mNil) := by
  obtain ⟨rd, h1, h2⟩ := hm
  exact ⟨PE.imp (pe_bm0 pa slot hty h1 ho.pe hbase hline) fun σ H Q ⟨av, r, e, m, re, rm, h⟩ =>
    ⟨av, r, e, m, re, rm, okR_imp (okR_bind h) fun x m1 h r1 H1 v g1 rm1 rv => by
      split at h
      · rename_i ht
        refine ⟨hT rm1 rv ht, ?_⟩
        exact h2 rm1 rv (xs := []) (by unfold RVs; rfl) (okR_W (okR_grow g1 (fun _ _ k => KE.grow g1 k) h))
      · exact h.elim⟩⟩
end
/-- xs.append(y), xs.extend(ys), xs.pop(), xs.pop(i) -/
def qAppend : PV → List PV → Mem → Res PV := fun x xs m => match x, xs with
  | .ref j, [y] => match m[j]? with
    | some (.lst ys) => if szOk ys.length then .ok .non (m.set j (.lst (ys ++ [y]))) else .bad
    | _ => .bad
  | _, _ => .bad
theorem qt_append : MtK X T "list" "list.append" qAppend := by
  refine ⟨_, mt_append, fun {av r H m x xs v vs Q} rm rv rvs h => ?_⟩
  unfold qAppend at h
  split at h
  · rename_i j y
    split at h
    · rename_i ys hy
      split at h
      · rename_i hz
        obtain ⟨p, ws, rfl, hj, hl, hv⟩ := rm.lst rv hy
        obtain ⟨w, rfl, hw⟩ := rvs1 rvs
        have hp : p ∈ r := List.mem_of_getElem? hj
        exact ⟨p, ws, w, rfl, rfl, hl, by rw [hv.length]; exact szOk_lt hz, h r _ _ (grow_write hp) (rm.setL hj (by first | (rw [hl]; trivial) | (rw [hA]; trivial) | (rw [d]; trivial)) (hv.append (by unfold RVs; exact ⟨w, [], rfl, hw, by unfold RVs; rfl⟩))) rv_non⟩
      · exact h.elim
    · exact h.elim
  · exact h.elim
def rExtR : V → List V → Hp → VK → Prop := fun x vs H Q => ∃ l b xs zs, x = .ref l ∧ vs = [.ref b] ∧ H l = some (.lst xs) ∧ Rd H b (.lst zs) ∧ xs.length + zs.length ≤ sizeLine ∧ Q .non (upd H l (.lst (xs ++ zs)))
theorem mt_extR : MtR X "list.extend" rExtR := by
  intro pins s σ H x vs v us Q I rx rv h
  obtain ⟨l, b, xs, zs, rfl, rfl, hH, hB, hz, q⟩ := h
  cases rx
  obtain ⟨u, rfl, ru⟩ := rv.one
  cases ru
  obtain ⟨z, its, n, r, hl, e⟩ := I.lstM hH
  obtain ⟨z2, its2, n2, r2, hl2, e2⟩ := lstR I hB
  have hsz : its.toArray.size + its2.toArray.size ≤ sizeLine := by rw [List.size_toArray, List.size_toArray]; omega
  have hlong : ¬ (!its.toArray.isEmpty && Builtin.List.listTooLong (its.toArray.size + its2.toArray.size)) = true := by
    rw [notLongL hsz, Bool.and_false]
    exact Bool.false_ne_true
  refine call_meets F.slot_list_extend ⟨_, e, rfl⟩ F.entry_list_extend (F.args_list_extend_2 _ _)
    (AutoSeq1.list_extend_list_list_0 l its.toArray n b its2.toArray n2 hlong (by rw [List.size_toArray]; omega) (by omega)) ⟨e, e2, ?_⟩
  refine ⟨.non, _, I.lset (its' := its ++ its2) hH e (by simp) (r.append r2) ?_, rfl, q⟩
  rw [List.length_append]
  omega
def qExtend : PV → List PV → Mem → Res PV := fun x xs m => match x, xs with
  | .ref j, [y] => match m[j]?, lstOf y m with
    | some (.lst ys), some zs => if szOk (ys.length + zs.length) then .ok .non (m.set j (.lst (ys ++ zs))) else .bad
    | _, _ => .bad
  | _, _ => .bad
theorem qt_extend : MtK X T "list" "list.extend" qExtend := by
  refine ⟨_, mt_extR, fun {av r H m x xs v vs Q} rm rv rvs h => ?_⟩
  unfold qExtend at h
  split at h
  · rename_i j y
    split at h
    · rename_i ys zs hy hz
      split at h
      · rename_i hs
        obtain ⟨p, ws, rfl, hj, hl, hv⟩ := rm.lst rv hy
        obtain ⟨w, rfl, hw⟩ := rvs1 rvs
        obtain ⟨b, us, rfl, hb, hu⟩ := lstOf_ok rm hw hz
        have hp : p ∈ r := List.mem_of_getElem? hj
        exact ⟨p, b, ws, us, rfl, rfl, hl, hb, by rw [hv.length, hu.length]; exact szOk_le hs, h r _ _ (grow_write hp) (rm.setL hj (by first | (rw [hl]; trivial) | (rw [hA]; trivial) | (rw [d]; trivial)) (hv.append hu)) rv_non⟩
      · exact h.elim
    · exact h.elim
  · exact h.elim
theorem RVs.dropLast {xs : List PV} {vs : List V} (h : RVs T av r H xs vs) : RVs T av r H xs.dropLast vs.dropLast := by
  rw [List.dropLast_eq_take, List.dropLast_eq_take, h.length]
  exact h.take _
def qPop : PV → List PV → Mem → Res PV := fun x xs m => match x, xs with
  | .ref j, [] => match m[j]? with
    | some (.lst ys) => match ys[ys.length - 1]? with
      | some y => .ok y (m.set j (.lst ys.dropLast))
      | none => .bad
    | _ => .bad
  | _, _ => .bad
theorem qt_pop : MtK X T "list" "list.pop" qPop := by
  refine ⟨_, mt_pop, fun {av r H m x xs v vs Q} rm rv rvs h => ?_⟩
  unfold qPop at h
  split at h
  · rename_i j
    split at h
    · rename_i ys hy
      split at h
      · rename_i y hyl
        obtain ⟨p, ws, rfl, hj, hl, hv⟩ := rm.lst rv hy
        unfold RVs at rvs
        subst rvs
        obtain ⟨w, hw, rw'⟩ := hv.get hyl
        have hp : p ∈ r := List.mem_of_getElem? hj
        exact ⟨p, ws, w, rfl, rfl, hl, by rw [hv.length]; exact hw, h r _ _ (grow_write hp) (rm.setL hj (by first | (rw [hl]; trivial) | (rw [hA]; trivial) | (rw [d]; trivial)) hv.dropLast) (rw'.out (out_mem hp))⟩
      · exact h.elim
    · exact h.elim
  · exact h.elim
theorem RVs.eraseIdx : ∀ {xs : List PV} {vs : List V} (k : Nat), RVs T av r H xs vs → RVs T av r H (xs.eraseIdx k) (vs.eraseIdx k)
  | [], _, _, h => by unfold RVs at h; subst h; simp; unfold RVs; rfl
  | x :: xs, _, 0, h => by
    unfold RVs at h
    obtain ⟨v, ws, rfl, _, h2⟩ := h
    exact h2
  | x :: xs, _, k + 1, h => by
    unfold RVs at h
    obtain ⟨v, ws, rfl, h1, h2⟩ := h
    simp only [List.eraseIdx_cons_succ]
    unfold RVs
    exact ⟨v, _, rfl, h1, RVs.eraseIdx k h2⟩
def qPopAt : PV → List PV → Mem → Res PV := fun x xs m => match x, xs with
  | .ref j, [.int i] => match m[j]? with
    | some (.lst ys) => match ixN ys.length i with
      | some k => match ys[k]? with
        | some y => if szOk ys.length then .ok y (m.set j (.lst (ys.eraseIdx k))) else .bad
        | none => .bad
      | none => .bad
    | _ => .bad
  | _, _ => .bad
theorem qt_popAt : MtK X T "list" "list.pop" qPopAt := by
  refine ⟨_, mt_popAt, fun {av r H m x xs v vs Q} rm rv rvs h => ?_⟩
  unfold qPopAt at h
  split at h
  · rename_i j i
    split at h
    · rename_i ys hy
      split at h
      · rename_i k hk
        split at h
        · rename_i y hyl
          split at h
          · rename_i hz
            obtain ⟨p, ws, rfl, hj, hl, hv⟩ := rm.lst rv hy
            obtain ⟨w0, rfl, hw0⟩ := rvs1 rvs
            obtain ⟨w, hw, rw'⟩ := hv.get hyl
            have hp : p ∈ r := List.mem_of_getElem? hj
            obtain ⟨s1, s2, s3, s4⟩ := ixN_seq hk
            have hz' := Nat.le_of_ble_eq_true hz
            exact ⟨p, ws, i, k, w, rfl, by rw [hw0.int'], hl, by omega, by omega, by rw [hv.length]; exact s1, hw, h r _ _ (grow_write hp) (rm.setL hj (by first | (rw [hl]; trivial) | (rw [hA]; trivial) | (rw [d]; trivial)) (hv.eraseIdx k)) (rw'.out (out_mem hp))⟩
          · exact h.elim
        · exact h.elim
      · exact h.elim
    · exact h.elim
  · exact h.elim
/-- xs[i] = v -/
def wrL (x o i : PV) (m : Mem) : Option Mem := match o, i with
  | .ref j, .int k => match m[j]? with
    | some (.lst ys) => match ixN ys.length k with
      | some n => some (m.set j (.lst (ys.set n x)))
      | none => none
    | _ => none
  | _, _ => none
theorem wrL_some {x o i : PV} {m m' : Mem} (h : wrL x o i m = some m') : ∃ j k ys n, o = .ref j ∧ i = .int k ∧ m[j]? = some (.lst ys) ∧ ixN ys.length k = some n ∧ m' = m.set j (.lst (ys.set n x)) := by
  unfold wrL at h
  split at h
  · rename_i j k
    split at h
    · rename_i ys hy
      split at h
      · rename_i n hn
        exact ⟨j, k, ys, n, rfl, rfl, hy, hn, (Option.some.inj h).symm⟩
      · cases h
    · cases h
  · cases h
def gSubL (mo mi : ME) : MG := fun x e m => (mo e m).calm.bind fun o m1 => (mi e m1).calm.bind fun i m2 => match wrL x o i m2 with
  | some m3 => .ok e m3
  | none => .bad
theorem RVs.set {x : PV} {v : V} (hx : RV T av r H x v) : ∀ {xs : List PV} {vs : List V} (k : Nat), RVs T av r H xs vs → RVs T av r H (xs.set k x) (vs.set k v)
  | [], _, _, h => by unfold RVs at h; subst h; simp; unfold RVs; rfl
  | y :: xs, _, 0, h => by
    unfold RVs at h
    obtain ⟨w, ws, rfl, _, h2⟩ := h
    simp only [List.set_cons_zero]
    unfold RVs
    exact ⟨v, _, rfl, hx, h2⟩
  | y :: xs, _, k + 1, h => by
    unfold RVs at h
    obtain ⟨w, ws, rfl, h1, h2⟩ := h
    simp only [List.set_cons_succ]
    unfold RVs
    exact ⟨w, _, rfl, h1, RVs.set hx k h2⟩
theorem sg_subL {o i : Expr} {mo mi : ME} (ho : SE X T W o mo) (hi : SE X T W i mi) (he : ∀ (v : Value), assign (o.Subscript i pos) X.env v = (do
    let ov ← holding [v] (eval o X.env)
    let iv ← holding [v, ov] (eval i X.env)
    standAt pos
    holding [v, ov, iv] (setItem ov iv v)
    release [v, ov, iv] []) := by intro _; rfl) : SG X T [] (.Subscript o i pos) (gSubL mo mi) :=
  ⟨PG.imp (pg_sub ho.pe hi.pe set_list he) fun v σ H Q ⟨av, r, e, m, x, re, rm, rv, h⟩ =>
    ⟨av, r, e, m, re, rm, okR_imp (okR_calm h) fun ov m1 h r1 H1 w1 g1 rm1 rv1 =>
      ⟨av, r1, e, m1, re.grow g1, rm1, okR_imp (okR_calm h) fun iv m2 h r2 H2 w2 g2 rm2 rv2 => by
        split at h
        · rename_i m3 hw
          obtain ⟨j, k, ys, n, rfl, rfl, hy, hn, rfl⟩ := wrL_some hw
          obtain ⟨p, ws, rfl, hj, hl, hv⟩ := rm2.lst (rv1.grow g2) hy
          have hp : p ∈ r2 := List.mem_of_getElem? hj
          have g12 := g1.trans g2
          exact ⟨p, ws, k, n, rfl, rv2.int', hl, by rw [hv.length]; exact hn, h r2 _ σ (g12.trans (grow_write hp)) (rm2.setL hj (by first | (rw [hl]; trivial) | (rw [hA]; trivial) | (rw [d]; trivial)) (RVs.set (rv.grow g12) n hv)) (re.grow (g12.trans (grow_write hp))) .refl⟩
        · exact h.elim⟩⟩⟩

/-! ### defs -/
abbrev WN (E : XK) : WX := fun c d _ H => E c d H
def spM (T : Tx) (n : Nat) (f : MF) : Sp := fun vs H Q E => vs.length = n ∧ ∃ av r m xs, RVs T av r H xs vs ∧ RM T av r H m ∧ okR T av r H (fun c d H' => E c d H') (KE T av r H Q) (f xs m)
def mFn (n : Nat) (body : MS) : MF := fun args m => match body (args.map some ++ List.replicate (n - args.length) none) m with
  | .nx _ m' => .ok .non m'
  | .rt v m' => .ok v m'
  | .exc c ws _ m' => .exc c ws m'
  | _ => .bad
theorem re_start {N : List Str} : ∀ {xs : List PV} {vs : List V}, RVs T av r H xs vs → RE T av r H (xs.map some ++ List.replicate (N.length - xs.length) none) (vs.map some ++ List.replicate (N.length - vs.length) none) := by
  intro xs vs h
  have hl := h.length
  rw [hl]
  generalize N.length - xs.length = k
  clear hl
  induction xs generalizing vs with
  | nil =>
    unfold RVs at h
    subst h
    induction k with
    | zero => exact .nil
    | succ k ih => exact .cons (fun v hv => by cases hv) ih
  | cons x xs ih =>
    unfold RVs at h
    obtain ⟨v, ws, rfl, h1, h2⟩ := h
    exact .cons (fun v' hv => by cases hv; exact ⟨v, rfl, h1⟩) (ih h2)
section
variable {P : Program} {w : World} {K : PySem.W.Frag} {mg : Str → Option Value} {base : Heap}
theorem fn_mk {x qual : Str} {fd : FuncData} {f : Addr} {N ps : List Str} {k : Nat} {body : MS} (F : Fun K x qual st f fd) (S : FnScope N ps (defScope st))
    (hb : ∀ (cdv : Value) (A : Around) (outer : List PySem.Env) (s : Shared) (H : Hp) (E : XK), Room k (A.deeper (envOfC qual (defScope st) s.heap.objs.size f cdv)) →
      SB (cxOf (L2.CX P w) P w K mg base N qual (defScope st) f cdv A outer s H E) T (WN E) (defBody st) body) : FnOk P w K mg base (L2.CX P w) (k + 1) f fd ps (spM T ps.length (mFn N.length body)) := by
  refine F.okX S (fun vs H Q E h => h.1) fun cdv A outer s H vs Q E hr h => ?_
  refine ⟨_, (hb cdv A outer s H E hr).ps, ?_⟩
  obtain ⟨_, av, r, m, xs, rv, rm, h⟩ := h
  refine ⟨av, r, _, m, re_start rv, rm, ?_⟩
  unfold mFn at h
  split at h
  · rename_i e' m' hbd
    rw [hbd]
    exact fun r1 H1 σ1 g rm1 re1 => h r1 H1 .non g rm1 rv_non
  · rename_i v m' hbd
    rw [hbd]
    exact fun r1 H1 w g rm1 rv1 => h r1 H1 w g rm1 rv1
  · rename_i c ws e' m' hbd
    rw [hbd]
    exact fun r1 H1 σ1 cls d g rm1 re1 rx => h r1 H1 cls d g rm1 rx
  · exact h.elim
end
end M

namespace M
open PySem PySem.Spec PyProof.Rows L2
variable {X : Cx} {T : Tx} {W : WX} {a b c : Expr} {ma mb mc : ME} {mt mu : MT} {ms mv : MS} {pos : Pos} {st : Stmt} {rest sts : List Stmt}
variable {av av' : Av} {r r' r2 : List Addr} {H H' H2 : Hp} {m m' : Mem} {tg iter : Expr}
variable {x : Str} {p apos : Pos} {es : List Expr} {mr : MA} {f : Addr} {fd : FuncData} {ps : List Str} {k n : Nat} {mf : MF} {E : XK}

/-! ### values without references -/
mutual
def noRef : PV → Bool
  | .tup xs => noRefs xs
  | .lst xs => noRefs xs
  | .ins _ ws => noRefs ws
  | .dtt _ ws => noRefs ws
  | .dct _ ws => noRefs ws
  | .ref _ => false
  | .exn _ _ => false
  | .kst xs => noRefs xs
  | _ => true
def noRefs : List PV → Bool
  | [] => true
  | x :: xs => noRef x && noRefs xs
end
abbrev Kept (H H' : Hp) : Prop := ∀ b o, H b = some o → nTbl o → H' b = some o
theorem Grow.kept (g : Grow [] H r' H') : Kept H H' := fun b o e t => g.keep b o e (by simp) (nTbl_ne t)
/-! a value without references, from one memory to another one -/
mutual
theorem RV.move (ho : ∀ b, Out av r b → Hard H b → Out av' r' b) (hk : Kept H H') : ∀ (x : PV) {v : V}, noRef x = true → RV T av r H x v → RV T av' r' H' x v
  | .non, _, _, h => by unfold RV at *; exact h
  | .bl _, _, _, h => by unfold RV at *; exact h
  | .int _, _, _, h => by unfold RV at *; exact h
  | .str _, _, _, h => by unfold RV at *; exact h
  | .tup xs, _, n, h => by
    unfold noRef at n
    unfold RV at *
    obtain ⟨a, vs, e, h1, h2⟩ := h
    refine ⟨a, vs, e, ?_, RVs.move ho hk xs n h2⟩
    rcases h1 with ⟨o, d⟩ | q
    · exact .inl ⟨ho a o ⟨_, d, trivial⟩, hk a _ d trivial⟩
    · exact .inr q
  | .kst xs, _, n, h => by
    unfold noRef at n
    unfold RV at *
    obtain ⟨a, vs, e, k, h2⟩ := h
    exact ⟨a, vs, e, k, RVs.move ho hk xs n h2⟩
  | .lst xs, _, n, h => by
    unfold noRef at n
    unfold RV at *
    obtain ⟨a, vs, e, o, d, h2⟩ := h
    refine ⟨a, vs, e, ho a o (rd_some d), ?_, RVs.move ho hk xs n h2⟩
    rcases d with d | ⟨o', d⟩
    · exact .inl (hk a _ d trivial)
    · exact .inr ⟨o', hk a _ d trivial⟩
  | .ins c ws, _, n, h => by
    unfold noRef at n
    unfold RV at *
    obtain ⟨a, dx, fs, e, o, d, nm, h2⟩ := h
    exact ⟨a, dx, fs, e, ho a o ⟨_, d, trivial⟩, hk a _ d trivial, nm, RVs.move ho hk ws n h2⟩
  | .dtt ks ws, _, n, h => by
    unfold noRef at n
    unfold RV at *
    obtain ⟨a, kvs, e, o, d, nm, h2⟩ := h
    refine ⟨a, kvs, e, ho a o (rd_some d), ?_, nm, RVs.move ho hk ws n h2⟩
    rcases d with d | ⟨o', d⟩
    · exact .inl (hk a _ d trivial)
    · exact .inr ⟨o', hk a _ d trivial⟩
  | .exn c ws, _, n, h => by unfold noRef at n; cases n
  | .dct ks ws, _, n, h => by
    unfold noRef at n
    unfold RV at *
    obtain ⟨a, vs, e, o, d, h2⟩ := h
    refine ⟨a, vs, e, ho a o (dk_some d), ?_, RVs.move ho hk ws n h2⟩
    rcases d with ⟨kvs, d | ⟨o', d⟩, q⟩ | ⟨kvs, d | ⟨o', d⟩, q⟩
    · exact .inl ⟨kvs, .inl (hk a _ d trivial), q⟩
    · exact .inl ⟨kvs, .inr ⟨o', hk a _ d trivial⟩, q⟩
    · exact .inr ⟨kvs, .inl (hk a _ d trivial), q⟩
    · exact .inr ⟨kvs, .inr ⟨o', hk a _ d trivial⟩, q⟩
  | .glo _, _, _, h => by unfold RV at *; exact h
  | .ref i, _, n, h => by unfold noRef at n; cases n
theorem RVs.move (ho : ∀ b, Out av r b → Hard H b → Out av' r' b) (hk : Kept H H') : ∀ (xs : List PV) {vs : List V}, noRefs xs = true → RVs T av r H xs vs → RVs T av' r' H' xs vs
  | [], _, _, h => by unfold RVs at *; exact h
  | x :: xs, _, n, h => by
    unfold noRefs at n
    rw [Bool.and_eq_true] at n
    unfold RVs at *
    obtain ⟨v, ws, e, h1, h2⟩ := h
    exact ⟨v, ws, e, RV.move ho hk x n.1 h1, RVs.move ho hk xs n.2 h2⟩
end
/-! all that stood stands: the memory is as it was -/
mutual
theorem RV.stay (hk : Kept H H') : ∀ (x : PV) {v : V}, RV T av r H x v → RV T av r H' x v
  | .non, _, h => by unfold RV at *; exact h
  | .bl _, _, h => by unfold RV at *; exact h
  | .int _, _, h => by unfold RV at *; exact h
  | .str _, _, h => by unfold RV at *; exact h
  | .tup xs, _, h => by
    unfold RV at *
    obtain ⟨a, vs, e, h1, h2⟩ := h
    refine ⟨a, vs, e, ?_, RVs.stay hk xs h2⟩
    rcases h1 with ⟨o, d⟩ | q
    · exact .inl ⟨o, hk a _ d trivial⟩
    · exact .inr q
  | .kst xs, _, h => by
    unfold RV at *
    obtain ⟨a, vs, e, k, h2⟩ := h
    exact ⟨a, vs, e, k, RVs.stay hk xs h2⟩
  | .lst xs, _, h => by
    unfold RV at *
    obtain ⟨a, vs, e, o, d, h2⟩ := h
    refine ⟨a, vs, e, o, ?_, RVs.stay hk xs h2⟩
    rcases d with d | ⟨o', d⟩
    · exact .inl (hk a _ d trivial)
    · exact .inr ⟨o', hk a _ d trivial⟩
  | .ins c ws, _, h => by
    unfold RV at *
    obtain ⟨a, dx, fs, e, o, d, nm, h2⟩ := h
    exact ⟨a, dx, fs, e, o, hk a _ d trivial, nm, RVs.stay hk ws h2⟩
  | .dtt ks ws, _, h => by
    unfold RV at *
    obtain ⟨a, kvs, e, o, d, nm, h2⟩ := h
    refine ⟨a, kvs, e, o, ?_, nm, RVs.stay hk ws h2⟩
    rcases d with d | ⟨o', d⟩
    · exact .inl (hk a _ d trivial)
    · exact .inr ⟨o', hk a _ d trivial⟩
  | .exn c ws, _, h => by
    unfold RV at *
    obtain ⟨a, dx, fs, ex, e, o, d, nm, h2⟩ := h
    exact ⟨a, dx, fs, ex, e, o, hk dx _ d trivial, nm, RVs.stay hk ws h2⟩
  | .dct ks ws, _, h => by
    unfold RV at *
    obtain ⟨a, vs, e, o, d, h2⟩ := h
    refine ⟨a, vs, e, o, ?_, RVs.stay hk ws h2⟩
    rcases d with ⟨kvs, d | ⟨o', d⟩, q⟩ | ⟨kvs, d | ⟨o', d⟩, q⟩
    · exact .inl ⟨kvs, .inl (hk a _ d trivial), q⟩
    · exact .inl ⟨kvs, .inr ⟨o', hk a _ d trivial⟩, q⟩
    · exact .inr ⟨kvs, .inl (hk a _ d trivial), q⟩
    · exact .inr ⟨kvs, .inr ⟨o', hk a _ d trivial⟩, q⟩
  | .glo _, _, h => by unfold RV at *; exact h
  | .ref i, _, h => by unfold RV at *; exact h
theorem RVs.stay (hk : Kept H H') : ∀ (xs : List PV) {vs : List V}, RVs T av r H xs vs → RVs T av r H' xs vs
  | [], _, h => by unfold RVs at *; exact h
  | x :: xs, _, h => by
    unfold RVs at *
    obtain ⟨v, ws, e, h1, h2⟩ := h
    exact ⟨v, ws, e, RV.stay hk x h1, RVs.stay hk xs h2⟩
end
theorem RM.stay (hk : Kept H H') (ht : ∀ b, Hard H b → Hard H' b) (htb : LamX.Tabs T.tb H') (h : RM T av r H m) : RM T av r H' m :=
  ⟨h.len, h.nd, fun i x a h1 h2 => by
    have q := h.ob i x a h1 h2
    cases x with
    | lst xs => obtain ⟨vs, h1, h2⟩ := q; exact ⟨vs, hk a _ h1 trivial, h2.stay hk⟩
    | ins c ws => obtain ⟨dx, fs, h1, h2, h3, h4⟩ := q; exact ⟨dx, fs, hk a _ h1 trivial, h2, h3.stay hk, h4⟩
    | dtt ks ws => obtain ⟨kvs, h1, h2, h3⟩ := q; exact ⟨kvs, hk a _ h1 trivial, h2, h3.stay hk⟩
    | dnn ks ws => obtain ⟨xs, vs, h1, h2, h3, h4, h5⟩ := q; exact ⟨xs, vs, hk a _ h1 trivial, h2, h3.stay hk, h4.stay hk, h5⟩
    | dct ks ws =>
      obtain ⟨vs, h1, h2⟩ := q
      refine ⟨vs, ?_, h2.stay hk⟩
      rcases h1 with ⟨kvs, d, q⟩ | ⟨kvs, d, q⟩
      · exact .inl ⟨kvs, hk a _ d trivial, q⟩
      · exact .inr ⟨kvs, hk a _ d trivial, q⟩, htb, fun a ha => ht a (h.th a ha), fun a ha vs e => by
    obtain ⟨u, e2, t⟩ := h.th a (.inl ha)
    have q := hk a _ e2 t
    rw [e] at q
    cases q
    exact h.nt a ha vs e2⟩
theorem Grow.pure (g : Grow [] H r' H') : Grow r H r H' := ⟨⟨[], by simp, by simp⟩, fun b o e _ t => g.keep b o e (by simp) t, g.there⟩
abbrev AvR (av : Av) (r : List Addr) : Av := fun a => av a ∨ a ∈ r
theorem RM.empty (h : RM T av r H m) : RM T (AvR av r) [] H [] := ⟨rfl, by simp, fun i o a h1 => by simp at h1, h.tb, fun a ha => h.th a (ha.elim id fun z => by cases z), fun a ha vs e => ha.elim (fun z => h.nt a z vs e) fun z => h.rnt z vs e⟩
theorem out_in {b : Addr} (h : Out av r b) : Out (AvR av r) [] b := ⟨fun z => z.elim h.1 h.2, by simp⟩
theorem out_back {b : Addr} (h : Out (AvR av r) r' b) : Out av r b := ⟨fun z => h.1 (.inl z), fun z => h.1 (.inr z)⟩

/-! ### calls of defs -/
/-- the callee works on the same memory -/
def mCall (n : Nat) (mf : MF) (mr : MA) : ME := fun e m => (mr e m).bind fun xs m1 => if xs.length == n then mf xs m1 else .bad
/-- a value of a callee's memory as a plain one -/
def mapO (f : PV → Option PV) : List PV → Option (List PV)
  | [] => some []
  | x :: xs => match f x, mapO f xs with
    | some y, some ys => some (y :: ys)
    | _, _ => none
def res : Nat → Mem → PV → Option PV
  | 0, _, x => if noRef x then some x else none
  | n + 1, m, x => if noRef x then some x else match x with
    | .ref i => match m[i]? with
      | some (.lst xs) => (mapO (res n m) xs).map PV.lst
      | some (.dct ks ws) => (mapO (res n m) ws).map (PV.dct ks)
      | some (.dtt ks ws) => (mapO (res n m) ws).map (PV.dtt ks)
      | _ => none
    | .tup xs => (mapO (res n m) xs).map PV.tup
    | .lst xs => (mapO (res n m) xs).map PV.lst
    | .dct ks ws => (mapO (res n m) ws).map (PV.dct ks)
    | .dtt ks ws => (mapO (res n m) ws).map (PV.dtt ks)
    | _ => none
theorem Grow.outOf {a : Addr} (g : Grow [] H r' H') (rm : RM T av r H m) (ha : a ∈ r') : Out av r a := by
  obtain ⟨more, e, f⟩ := g.ext
  have q : a ∈ more := by rw [e] at ha; simpa using ha
  exact ⟨fun z => f a q (rm.th a (.inl z)), fun z => f a q (rm.th a (.inr z))⟩
theorem mapO_ok {f : PV → Option PV} (hf : ∀ (x y : PV) (v : V), f x = some y → RV T (AvR av r) r' H' x v → RV T av r H' y v) : ∀ (xs ys : List PV) (vs : List V), mapO f xs = some ys → RVs T (AvR av r) r' H' xs vs → RVs T av r H' ys vs
  | [], ys, vs, h, k => by
    unfold mapO at h
    cases h
    unfold RVs at *
    exact k
  | x :: xs, ys, vs, h, k => by
    unfold mapO at h
    split at h
    · rename_i y zs h1 h2
      cases h
      unfold RVs at k
      obtain ⟨v, ws, rfl, k1, k2⟩ := k
      have q := mapO_ok hf xs zs ws h2 k2
      unfold RVs
      exact ⟨v, ws, rfl, hf x y v h1 k1, q⟩
    · cases h
theorem mapO_some {f : PV → Option PV} {xs : List PV} {c : List PV → PV} {y : PV} (h : (mapO f xs).map c = some y) : ∃ ys, mapO f xs = some ys ∧ y = c ys := by
  cases q : mapO f xs with
  | none => rw [q] at h; cases h
  | some ys => rw [q] at h; cases h; exact ⟨ys, rfl, rfl⟩
theorem res_ok (ob : ∀ a ∈ r', Out av r a) (rm1 : RM T (AvR av r) r' H' m') : ∀ (n : Nat) (x y : PV) (v : V), res n m' x = some y → RV T (AvR av r) r' H' x v → RV T av r H' y v := by
  intro n
  induction n with
  | zero =>
    intro x y v h k
    unfold res at h
    split at h
    · rename_i hn
      cases h
      exact RV.move (fun b o _ => out_back o) (fun b o e _ => e) x hn k
    · cases h
  | succ n ih =>
    intro x y v h k
    unfold res at h
    split at h
    · rename_i hn
      cases h
      exact RV.move (fun b o _ => out_back o) (fun b o e _ => e) x hn k
    · split at h
      · rename_i i _
        unfold RV at k
        obtain ⟨a, ha, rfl⟩ := k
        have am : a ∈ r' := List.mem_of_getElem? ha
        split at h
        · rename_i xs hx
          obtain ⟨ys, hy, rfl⟩ := mapO_some h
          obtain ⟨vs, d, k2⟩ := rm1.ob i _ a hx ha
          unfold RV
          exact ⟨a, vs, rfl, ob a am, .inl d, mapO_ok ih xs ys vs hy k2⟩
        · rename_i ks ws hx
          obtain ⟨ys, hy, rfl⟩ := mapO_some h
          obtain ⟨vs, d, k2⟩ := rm1.ob i _ a hx ha
          unfold RV
          exact ⟨a, vs, rfl, ob a am, d.dk, mapO_ok ih ws ys vs hy k2⟩
        · rename_i ks ws hx
          obtain ⟨ys, hy, rfl⟩ := mapO_some h
          obtain ⟨kvs, d, nm, k2⟩ := rm1.ob i _ a hx ha
          unfold RV
          exact ⟨a, kvs, rfl, ob a am, .inl d, nm, mapO_ok ih ws ys _ hy k2⟩
        · cases h
      · rename_i xs _
        obtain ⟨ys, hy, rfl⟩ := mapO_some h
        unfold RV at k
        obtain ⟨a, vs, rfl, d, k2⟩ := k
        unfold RV
        exact ⟨a, vs, rfl, d.imp (fun z => ⟨out_back z.1, z.2⟩) id, mapO_ok ih xs ys vs hy k2⟩
      · rename_i xs _
        obtain ⟨ys, hy, rfl⟩ := mapO_some h
        unfold RV at k
        obtain ⟨a, vs, rfl, o, d, k2⟩ := k
        unfold RV
        exact ⟨a, vs, rfl, out_back o, d, mapO_ok ih xs ys vs hy k2⟩
      · rename_i ks ws _
        obtain ⟨ys, hy, rfl⟩ := mapO_some h
        unfold RV at k
        obtain ⟨a, vs, rfl, o, d, k2⟩ := k
        unfold RV
        exact ⟨a, vs, rfl, out_back o, d, mapO_ok ih ws ys vs hy k2⟩
      · rename_i ks ws _
        obtain ⟨ys, hy, rfl⟩ := mapO_some h
        unfold RV at k
        obtain ⟨a, kvs, rfl, o, d, nm, k2⟩ := k
        unfold RV
        exact ⟨a, kvs, rfl, out_back o, d, nm, mapO_ok ih ws ys _ hy k2⟩
      · cases h
/-- the callee has a memory of its own -/
def runP (n : Nat) (mf : MF) (xs : List PV) (m : Mem) : Res PV := if xs.length == n && noRefs xs then match mf xs [] with
  | .ok v m1 => match res 6 m1 v with
    | some y => .ok y m
    | none => .bad
  | .exc c ws _ => if noRefs ws then .exc c ws m else .bad
  | .bad => .bad
  else .bad
def mCallP (n : Nat) (mf : MF) (mr : MA) : ME := fun e m => (mr e m).bind fun xs m1 => runP n mf xs m1
theorem sp_call {vs : List V} {xs : List PV} {Q : VK} (rm : RM T av r H m) (rv : RVs T av r H xs vs) (h : okR T av r H (fun c d H' => E c d H') (KE T av r H Q) (if xs.length == n then mf xs m else .bad)) : spM T n mf vs H Q E := by
  split at h
  · rename_i hl
    exact ⟨by rw [rv.length]; exact eq_of_beq hl, av, r, m, xs, rv, rm, h⟩
  · exact h.elim
theorem RX.back {c : Nat} {ws : List PV} {cls : Value} {d : Option Addr} (g : Grow [] H r' H') (hn : noRefs ws = true) (h : RX T (AvR av r) r' H' c ws cls d) : RX T av r H' c ws cls d :=
  ⟨h.1, h.2.imp id fun ⟨dx, fs, e1, e0, e2, e3, e4⟩ => ⟨dx, fs, e1, out_back e0, e2, e3, RVs.move (fun b o _ => out_back o) (fun b o e _ => e) ws hn e4⟩⟩
theorem sp_callP {vs : List V} {xs : List PV} {Q : VK} (rm : RM T av r H m) (rv : RVs T av r H xs vs) (h : okR T av r H (fun c d H' => E c d H') (KE T av r H Q) (runP n mf xs m)) : spM T n mf vs H Q E := by
  unfold runP at h
  split at h
  · rename_i hl
    rw [Bool.and_eq_true] at hl
    refine ⟨by rw [rv.length]; exact eq_of_beq hl.1, AvR av r, [], [], xs, RVs.move (fun b o _ => out_in o) (fun b o e _ => e) xs hl.2 rv, rm.empty, ?_⟩
    split at h
    · rename_i v m2 hv
      rw [hv]
      split at h
      · rename_i y hn
        intro r1 H1 w g rm1 rv1
        exact h r H1 w g.pure (rm.stay g.kept g.there rm1.tb) (res_ok (fun a ha => g.outOf rm ha) rm1 6 v y w hn rv1)
      · exact h.elim
    · rename_i c ws m2 hv
      rw [hv]
      split at h
      · rename_i hn
        intro r1 H1 cls d g rm1 rx
        exact h r H1 cls d g.pure (rm.stay g.kept g.there rm1.tb) (rx.back g hn)
      · exact h.elim
    · exact h.elim
  · exact h.elim
theorem se_call_of {sp : MF → List PV → Mem → Res PV} (hsp : ∀ {av : Av} {r : List Addr} {H : Hp} {m : Mem} {vs : List V} {xs : List PV} {Q : VK}, RM T av r H m → RVs T av r H xs vs → okR T av r H (fun c d H' => E c d H') (KE T av r H Q) (sp mf xs m) → spM T n mf vs H Q E)
    (F : FnOk X.prog X.w X.K X.mg X.base (L2.CX X.prog X.w) k f fd ps (spM T n mf)) (hr : Room k X.A) (hg : Gl X x) (hm : X.mg x = some (.ref f)) (hk : PySem.W.keepIn X.K (.ref f) = true) (hb : Binds X.K fd ps []) (tk : Takes X (WN E)) (ha : SA X T (WN E) (a :: es) mr)
    (hdb : (x == ("__debug__" : Str)) = false := by decide) (he : starEach (a :: es) X.env = (false, eval a X.env) :: starEach es X.env := by rfl) (hpl : (backTo pos (starEach es X.env)).any (·.1) = false := by rfl) :
    SE X T (WN E) (.Call (.Name x p) (a :: es) [] pos) (fun e m => (mr e m).bind fun xs m1 => sp mf xs m1) :=
  ⟨PE.imp (pe_call F hr hg hm hk hb .nil (passes_call tk (fun _ _ _ _ h => h)) ha.pa hdb he hpl) fun σ H Q ⟨av, r, e, m, re, rm, h⟩ =>
    ⟨av, r, e, m, re, rm, okR_imp (okR_bind h) fun xs m1 h r1 H1 vs g1 rm1 rv1 => by
      show spM T n mf (vs ++ []) H1 Q E
      rw [List.append_nil]
      exact hsp rm1 rv1 (okR_grow g1 (fun _ _ q => KE.grow g1 q) h)⟩⟩
theorem se_call (F : FnOk X.prog X.w X.K X.mg X.base (L2.CX X.prog X.w) k f fd ps (spM T n mf)) (hr : Room k X.A) (hg : Gl X x) (hm : X.mg x = some (.ref f)) (hk : PySem.W.keepIn X.K (.ref f) = true) (hb : Binds X.K fd ps []) (tk : Takes X (WN E)) (ha : SA X T (WN E) (a :: es) mr)
    (hdb : (x == ("__debug__" : Str)) = false := by decide) (he : starEach (a :: es) X.env = (false, eval a X.env) :: starEach es X.env := by rfl) (hpl : (backTo pos (starEach es X.env)).any (·.1) = false := by rfl) :
    SE X T (WN E) (.Call (.Name x p) (a :: es) [] pos) (mCall n mf mr) := se_call_of (sp := fun mf xs m => if xs.length == n then mf xs m else .bad) sp_call F hr hg hm hk hb tk ha hdb he hpl
theorem se_callP (F : FnOk X.prog X.w X.K X.mg X.base (L2.CX X.prog X.w) k f fd ps (spM T n mf)) (hr : Room k X.A) (hg : Gl X x) (hm : X.mg x = some (.ref f)) (hk : PySem.W.keepIn X.K (.ref f) = true) (hb : Binds X.K fd ps []) (tk : Takes X (WN E)) (ha : SA X T (WN E) (a :: es) mr)
    (hdb : (x == ("__debug__" : Str)) = false := by decide) (he : starEach (a :: es) X.env = (false, eval a X.env) :: starEach es X.env := by rfl) (hpl : (backTo pos (starEach es X.env)).any (·.1) = false := by rfl) :
    SE X T (WN E) (.Call (.Name x p) (a :: es) [] pos) (mCallP n mf mr) := se_call_of (sp := runP n) sp_callP F hr hg hm hk hb tk ha hdb he hpl

/-! ### methods of own classes -/
def isIns (c : Nat) : PV → Mem → Bool
  | .ins c' _, _ => c' == c
  | .ref j, m => match m[j]? with
    | some (.ins c' _) => c' == c
    | _ => false
  | _, _ => false
theorem lookup_none {fs : List (Str × V)} {f : Str} (h : f ∉ fs.map (·.1)) : fs.lookup f = none := by
  induction fs with
  | nil => rfl
  | cons q qs ih =>
    obtain ⟨q1, q2⟩ := q
    rw [List.map_cons, List.mem_cons, not_or] at h
    rw [List.lookup_cons, beq_eq_false_iff_ne.mpr h.1]
    exact ih h.2
theorem isIns_ok {c : Nat} {y : PV} {v : V} {nm : Str} (hn : nm ∉ T.cN c) (rm : RM T av r H m) (rv : RV T av r H y v) (h : isIns c y m = true) : ∃ a dx fs, v = .ref a ∧ H a = some (.ins (T.cA c) dx fs) ∧ fs.lookup nm = none := by
  unfold isIns at h
  split at h
  · have e := eq_of_beq h
    subst e
    unfold RV at rv
    obtain ⟨a, dx, fs, rfl, _, ha, hm, _⟩ := rv
    exact ⟨a, dx, fs, rfl, ha, lookup_none (by rw [hm]; exact hn)⟩
  · split at h
    · rename_i j _ c' ws hx
      have e := eq_of_beq h
      subst e
      unfold RV at rv
      obtain ⟨a, h1, rfl⟩ := rv
      obtain ⟨dx, fs, ha, hm, _⟩ := rm.ob j _ a hx h1
      exact ⟨a, dx, fs, rfl, ha, lookup_none (by rw [hm]; exact fun z => hn (List.mem_of_mem_take z))⟩
    · cases h
  · cases h
def mMeth (c n : Nat) (run : MF → List PV → Mem → Res PV) (mf : MF) (ma : ME) (mr : MA) : ME := fun e m => (ma e m).bind fun y m1 => if isIns c y m1 then (mr e m1).bind fun xs m2 => run mf (y :: xs) m2 else .bad
def runS (n : Nat) (mf : MF) (xs : List PV) (m : Mem) : Res PV := if xs.length == n then mf xs m else .bad
theorem se_meth_of {cl : Nat} {nm : Str} {pl : Sem Bool} {sp : MF → List PV → Mem → Res PV} (hsp : ∀ {av : Av} {r : List Addr} {H : Hp} {m : Mem} {vs : List V} {xs : List PV} {Q : VK}, RM T av r H m → RVs T av r H xs vs → okR T av r H (fun c d H' => E c d H') (KE T av r H Q) (sp mf xs m) → spM T n mf vs H Q E)
    (hn : nm ∉ T.cN cl) (hc : Cls X.K (T.cA cl)) (hM : Meth X.K (T.cA cl) nm f)
    (F : FnOk X.prog X.w X.K X.mg X.base (L2.CX X.prog X.w) k f fd ps (spM T n mf)) (hr : Room k X.A) (hb : Binds X.K fd ps []) (tk : Takes X (WN E)) (ho : SE X T (WN E) a ma) (ha : SA X T (WN E) (b :: es) mr)
    (hst : starEach (b :: es) X.env = (false, eval b X.env) :: starEach es X.env := by rfl) (hpl : (backTo pos (starEach es X.env)).any (·.1) = false := by rfl)
    (ht : eval (.Call (.Attribute a nm apos) (b :: es) [] pos) X.env = (do
      let ov ← eval a X.env
      standAt apos.atName
      let (f, first) ← holding [ov] (getMethod ov nm pl)
      callWith pos f first (backTo pos (starEach (b :: es) X.env)) (backToKw pos (keywordEach [] X.env))) := by rfl) :
    SE X T (WN E) (.Call (.Attribute a nm apos) (b :: es) [] pos) (mMeth cl n sp mf ma mr) :=
  ⟨PE.imp (pe_meth ho.pe hc hM F hr hb .nil (passes_call tk (fun _ _ _ _ h => h)) ha.pa hst hpl ht) fun σ H Q ⟨av, r, e, m, re, rm, h⟩ =>
    ⟨av, r, e, m, re, rm, okR_imp (okR_bind h) fun y m1 h r1 H1 v g1 rm1 rv1 => by
      split at h
      · rename_i hi
        obtain ⟨a, dx, fs, rfl, hA, hl⟩ := isIns_ok hn rm1 rv1 hi
        refine ⟨a, dx, fs, rfl, hA, hl, av, r1, e, m1, re.grow g1, rm1, okR_grow g1 (fun xs m2 h r2 H2 vs g2 rm2 rv2 => ?_) (okR_bind h)⟩
        show spM T n mf (_ :: (vs ++ [])) H2 Q E
        rw [List.append_nil]
        have g12 := g1.trans g2
        exact hsp rm2 (by unfold RVs; exact ⟨_, _, rfl, rv1.grow g2, rv2⟩) (okR_grow g12 (fun _ _ q => KE.grow g12 q) h)
      · exact h.elim⟩⟩
theorem se_meth0_of {cl : Nat} {nm : Str} {pl : Sem Bool} {sp : MF → List PV → Mem → Res PV} (hsp : ∀ {av : Av} {r : List Addr} {H : Hp} {m : Mem} {vs : List V} {xs : List PV} {Q : VK}, RM T av r H m → RVs T av r H xs vs → okR T av r H (fun c d H' => E c d H') (KE T av r H Q) (sp mf xs m) → spM T n mf vs H Q E)
    (hn : nm ∉ T.cN cl) (hc : Cls X.K (T.cA cl)) (hM : Meth X.K (T.cA cl) nm f)
    (F : FnOk X.prog X.w X.K X.mg X.base (L2.CX X.prog X.w) k f fd ps (spM T n mf)) (hr : Room k X.A) (hb : Binds X.K fd ps []) (tk : Takes X (WN E)) (ho : SE X T (WN E) a ma)
    (ht : eval (.Call (.Attribute a nm apos) [] [] pos) X.env = (do
      let ov ← eval a X.env
      standAt apos.atName
      let (f, first) ← holding [ov] (getMethod ov nm pl)
      callWith pos f first (backTo pos (starEach [] X.env)) (backToKw pos (keywordEach [] X.env))) := by rfl) :
    SE X T (WN E) (.Call (.Attribute a nm apos) [] [] pos) (mMeth cl n sp mf ma mNil) :=
  ⟨PE.imp (pe_meth0 ho.pe hc hM F hr hb .nil (passes_call tk (fun _ _ _ _ h => h)) ht) fun σ H Q ⟨av, r, e, m, re, rm, h⟩ =>
    ⟨av, r, e, m, re, rm, okR_imp (okR_bind h) fun y m1 h r1 H1 v g1 rm1 rv1 => by
      split at h
      · rename_i hi
        obtain ⟨a, dx, fs, rfl, hA, hl⟩ := isIns_ok hn rm1 rv1 hi
        refine ⟨a, dx, fs, rfl, hA, hl, ?_⟩
        have h := okR_bind h
        show spM T n mf (.ref a :: ([] ++ [])) H1 Q E
        exact hsp rm1 (xs := [y]) (by unfold RVs; exact ⟨_, _, rfl, rv1, by unfold RVs; rfl⟩) (okR_grow g1 (fun _ _ q => KE.grow g1 q) h)
      · exact h.elim⟩⟩

/-! ### a new instance -/
/-- its __init__ has a memory of its own; then it is a plain value -/
def runMk (c nf n : Nat) (mf : MF) (xs : List PV) (m : Mem) : Res PV := if xs.length + 1 == n && noRefs xs then match mf (.ref 0 :: xs) [MO.ins c []] with
  | .ok .non m1 => match m1[0]? with
    | some (MO.ins c' ws) => if c' == c && ws.length == nf && noRefs ws then .ok (.ins c ws) m else .bad
    | _ => .bad
  | .exc c' ws _ => if noRefs ws then .exc c' ws m else .bad
  | _ => .bad
  else .bad
def mMk (c nf n : Nat) (mf : MF) (mr : MA) : ME := fun e m => (mr e m).bind fun xs m1 => runMk c nf n mf xs m1
theorem se_make {cl nf : Nat} (hnf : (T.cN cl).length = nf) (M0 : L2.Mk X.K (T.cA cl) f) (F : FnOk X.prog X.w X.K X.mg X.base (L2.CX X.prog X.w) k f fd ps (spM T n mf)) (hr : Room (k + 1) X.A) (hg : Gl X x) (hm : X.mg x = some (.ref (T.cA cl))) (hb : Binds X.K fd ps []) (tk : Takes X (WN E)) (ha : SA X T (WN E) (a :: es) mr)
    (hdb : (x == ("__debug__" : Str)) = false := by decide) (he : starEach (a :: es) X.env = (false, eval a X.env) :: starEach es X.env := by rfl) (hpl : (backTo pos (starEach es X.env)).any (·.1) = false := by rfl) :
    SE X T (WN E) (.Call (.Name x p) (a :: es) [] pos) (mMk cl nf n mf mr) :=
  ⟨PE.imp (pe_make M0 F hr hg hm hb .nil (passes_call tk (fun _ _ _ _ h => h)) ha.pa hdb he hpl) fun σ H Q ⟨av, r, e, m, re, rm, h⟩ =>
    ⟨av, r, e, m, re, rm, okR_imp (okR_bind h) fun xs m1 h r1 H1 vs g1 rm1 rv1 ai dx hx hdx hne => by
      show spM T n mf (_ :: (vs ++ [])) _ _ E
      rw [List.append_nil]
      unfold runMk at h
      split at h
      · rename_i hl
        rw [Bool.and_eq_true] at hl
        have hx2 : upd H1 dx (.own ai) ai = none := by rw [upd_ne hne.symm]; exact hx
        have k12 : Kept H1 (upd (upd H1 dx (.own ai)) ai (.ins (T.cA cl) dx [])) := fun b o e _ => by
          rw [upd_ne (fun z => by rw [z, hx] at e; cases e), upd_ne (fun z => by rw [z, hdx] at e; cases e)]
          exact e
        have f12 : ∀ b o, H1 b = some o → upd (upd H1 dx (.own ai)) ai (.ins (T.cA cl) dx []) b = some o := fun b o e => by
          rw [upd_ne (fun z => by rw [z, hx] at e; cases e), upd_ne (fun z => by rw [z, hdx] at e; cases e)]
          exact e
        have t12 : ∀ b, Hard H1 b → Hard (upd (upd H1 dx (.own ai)) ai (.ins (T.cA cl) dx [])) b := fun b ⟨u, e, t⟩ => ⟨u, f12 b u e, t⟩
        have na : ai ∉ r1 := rm1.fresh hx
        have nav : ¬ av ai := rm1.freshA hx
        have rm2 : RM T (AvR av r1) [ai] (upd (upd H1 dx (.own ai)) ai (.ins (T.cA cl) dx [])) [MO.ins cl []] := by
          refine ⟨rfl, by simp, fun i o q h1 h2 => ?_, rm1.tb.ext fun b o e => f12 b o e, fun q hq => ?_, fun q hq vs e => ?_⟩
          · cases i with
            | zero =>
              simp at h1 h2
              subst h1 h2
              exact ⟨dx, [], upd_same, rfl, by unfold RVs; rfl, by simp⟩
            | succ i => simp at h1
          · rcases hq with hq | hq
            · exact t12 q (rm1.th q hq)
            · simp at hq
              subst hq
              exact ⟨_, upd_same, trivial⟩
          · obtain ⟨u, e2, _⟩ := rm1.th q hq
            have e3 := f12 q u e2
            rw [e] at e3
            cases e3
            exact hq.elim (fun z => rm1.nt q z vs e2) fun z => rm1.rnt z vs e2
        refine ⟨by rw [List.length_cons, rv1.length]; exact eq_of_beq hl.1, AvR av r1, [ai], [MO.ins cl []], .ref 0 :: xs, ?_, rm2, ?_⟩
        · unfold RVs
          exact ⟨_, _, rfl, by unfold RV; exact ⟨ai, rfl, rfl⟩, RVs.move (fun b o hb => ⟨fun z => z.elim o.1 o.2, fun z => by
            simp at z
            subst z
            exact soft hx hb⟩) k12 xs hl.2 rv1⟩
        · have back : ∀ {r2 : List Addr} {H3 : Hp}, Grow [ai] (upd (upd H1 dx (.own ai)) ai (.ins (T.cA cl) dx [])) r2 H3 → LamX.Tabs T.tb H3 → Grow r H r1 H3 ∧ RM T av r1 H3 m1 := fun {r2 H3} g tb3 => by
            have k13 : Kept H1 H3 := fun b o e t => g.keep b o (k12 b o e t) (fun z => by
              simp at z
              rw [z, hx] at e
              cases e) (nTbl_ne t)
            have t13 : ∀ b, Hard H1 b → Hard H3 b := fun b e => g.there b (t12 b e)
            exact ⟨g1.trans ⟨⟨[], by simp, by simp⟩, fun b o e _ t => k13 b o e (nTbl_of t), t13⟩, rm1.stay k13 t13 tb3⟩
          split at h
          · rename_i m2 hv
            rw [hv]
            intro r2 H3 w g rm3 rv3
            refine ⟨rv3.non', ?_⟩
            obtain ⟨gg, rmm⟩ := back g rm3.tb
            split at h
            · rename_i c' ws h0
              split at h
              · rename_i hh
                rw [Bool.and_eq_true, Bool.and_eq_true] at hh
                obtain ⟨⟨q1, q2⟩, q3⟩ := hh
                have e1 := eq_of_beq q1
                subst e1
                have hr0 : r2[0]? = some ai := get_grow g (by simp)
                obtain ⟨dx', fs, hA, hN, hV, _⟩ := rm3.ob 0 _ ai h0 hr0
                refine h r1 H3 (.ref ai) gg rmm ?_
                unfold RV
                refine ⟨ai, dx', fs, rfl, ⟨nav, na⟩, hA, ?_, RVs.move (fun b o _ => out_back o) (fun b o e _ => e) ws q3 hV⟩
                rw [hN, eq_of_beq q2, ← hnf, List.take_length]
              · exact h.elim
            · exact h.elim
          · rename_i c' ws m2 hv
            rw [hv]
            split at h
            · rename_i hn
              intro r2 H3 cls d g rm3 rx
              obtain ⟨gg, rmm⟩ := back g rm3.tb
              exact h r1 H3 cls d gg rmm ⟨rx.1, rx.2.imp id fun ⟨dx, fs, e1, e0, e2, e3, e4⟩ => ⟨dx, fs, e1, out_back e0, e2, e3, RVs.move (fun b o _ => out_back o) (fun b o e _ => e) ws hn e4⟩⟩
            · exact h.elim
          · exact h.elim
      · exact h.elim⟩⟩
end M

namespace M
open PySem PySem.Spec PyProof.Rows L2
variable {X : Cx} {T : Tx} {W : WX} {a b c : Expr} {ma mb mc : ME} {mt mu : MT} {ms mv : MS} {pos : Pos} {st : Stmt} {rest sts : List Stmt}
variable {av av' : Av} {r r' r2 : List Addr} {H H' H2 : Hp} {m m' : Mem} {tg iter : Expr}
variable {x : Str} {p apos : Pos} {es : List Expr} {mr : MA} {f : Addr} {fd : FuncData} {ps : List Str} {k n : Nat} {mf : MF} {E : XK}

/-! ### an attribute is stored -/
theorem putF_end {g : Str} {y : V} : ∀ {fs : List (Str × V)}, g ∉ fs.map (·.1) → putF g y fs = fs ++ [(g, y)]
  | [], _ => rfl
  | (q, u) :: fs, h => by
    rw [List.map_cons, List.mem_cons, not_or] at h
    unfold putF
    rw [if_neg (fun z => h.1 z.symm), putF_end h.2]; rfl
theorem putF_in {g : Str} {y : V} : ∀ {fs : List (Str × V)} {i : Nat}, (fs.map (·.1)).Nodup → (fs.map (·.1))[i]? = some g → (putF g y fs).map (·.1) = fs.map (·.1) ∧ (putF g y fs).map (·.2) = (fs.map (·.2)).set i y
  | [], i, _, h => by simp at h
  | (q, u) :: fs, 0, nd, h => by
    simp at h
    subst h
    unfold putF
    rw [if_pos rfl]
    exact ⟨rfl, rfl⟩
  | (q, u) :: fs, i + 1, nd, h => by
    rw [List.map_cons, List.nodup_cons] at nd
    simp only [List.map_cons, List.getElem?_cons_succ] at h
    have ne : q ≠ g := fun z => nd.1 (z ▸ List.mem_of_getElem? h)
    unfold putF
    rw [if_neg ne]
    obtain ⟨h1, h2⟩ := putF_in (i := i) (y := y) nd.2 h
    exact ⟨by rw [List.map_cons, h1]; rfl, by rw [List.map_cons, h2]; rfl⟩
def stF (c i : Nat) (y : PV) : PV → Mem → Option Mem
  | .ref j, m => match m[j]? with
    | some (MO.ins c' ws) => if c' == c then (if i == ws.length then some (m.set j (MO.ins c (ws ++ [y]))) else if i < ws.length then some (m.set j (MO.ins c (ws.set i y))) else none) else none
    | _ => none
  | _, _ => none
def mSetF (c i : Nat) (mo me : ME) : MS := fun e m => sB (me e m) e fun y m1 => sB (mo e m1) e fun o m2 => match stF c i y o m2 with
  | some m3 => .nx e m3
  | none => .bad
theorem stF_ok {cl i : Nat} {g : Str} {y o : PV} {v w : V} (nd : (T.cN cl).Nodup) (hl : (T.cN cl).length ≤ 100) (hg : (T.cN cl)[i]? = some g) (rm : RM T av r H m) (rv : RV T av r H o v) (ry : RV T av r H y w) (h : stF cl i y o m = some m') :
    ∃ p dx fs, v = .ref p ∧ p ∈ r ∧ H p = some (.ins (T.cA cl) dx fs) ∧ fs.length < 1000 ∧ RM T av r (upd H p (.ins (T.cA cl) dx (putF g w fs))) m' := by
  unfold stF at h
  split at h
  · rename_i j
    split at h
    · rename_i c' ws hx
      split at h
      · rename_i hc
        have e1 := eq_of_beq hc
        subst e1
        unfold RV at rv
        obtain ⟨p, h1, rfl⟩ := rv
        obtain ⟨dx, fs, hA, hN, hV, hZ⟩ := rm.ob j _ p hx h1
        have hp : p ∈ r := List.mem_of_getElem? h1
        refine ⟨p, dx, fs, rfl, hp, hA, by omega, ?_⟩
        have hfl : fs.length = ws.length := by
          have q := hV.length
          rwa [List.length_map] at q
        have hle : ws.length ≤ (T.cN c').length := by
          have q := congrArg List.length hN
          rw [List.length_map, List.length_take] at q
          omega
        split at h
        · rename_i hi
          cases h
          have ei := eq_of_beq hi
          subst ei
          have nin : g ∉ fs.map (·.1) := by
            rw [hN]
            intro z
            obtain ⟨q, hq, e⟩ := List.getElem_of_mem z
            rw [List.getElem_take] at e
            rw [List.length_take] at hq
            obtain ⟨l1, e1⟩ := List.getElem?_eq_some_iff.mp hg
            have := (List.getElem_inj (h₀ := by omega) (h₁ := l1) nd).mp (e.trans e1.symm)
            omega
          rw [putF_end nin]
          refine rm.write h1 (by first | (rw [hl]; trivial) | (rw [hA]; trivial) | (rw [d]; trivial)) ⟨dx, _, upd_same, ?_, ?_, ?_⟩
          · rw [List.map_append, hN, List.length_append, List.length_singleton, List.take_add_one, hg]; rfl
          · rw [List.map_append]
            exact (hV.out (out_mem hp)).append (by unfold RVs; exact ⟨w, [], rfl, ry.out (out_mem hp), by unfold RVs; rfl⟩)
          · rw [List.length_append, List.length_singleton]
            have l1 := (List.getElem?_eq_some_iff.mp hg).1
            omega
        · split at h
          · rename_i hi
            cases h
            have nd2 : (fs.map (·.1)).Nodup := by rw [hN]; exact nd.sublist (List.take_sublist _ _)
            obtain ⟨q1, q2⟩ := putF_in (y := w) (i := i) nd2 (by rw [hN, List.getElem?_take_of_lt hi]; exact hg)
            refine rm.write h1 (by first | (rw [hl]; trivial) | (rw [hA]; trivial) | (rw [d]; trivial)) ⟨dx, _, upd_same, by rw [q1, hN, List.length_set], by rw [q2]; exact RVs.set (ry.out (out_mem hp)) i (hV.out (out_mem hp)), ?_⟩
            have q := congrArg List.length q1
            rw [List.length_map, List.length_map] at q
            omega
          · cases h
      · cases h
    · cases h
  · cases h
theorem ss_fld (cl i : Nat) {g : Str} {pos' : Pos} (hc : Cls X.K (T.cA cl)) (hn : NoAttr X.K (T.cA cl) g) (nd : (T.cN cl).Nodup) (hl : (T.cN cl).length ≤ 100) (hg : (T.cN cl)[i]? = some g) (ho : SE X T W a ma) (hv : SE X T W b mb)
    (hs : swapsWith b (some (.Attribute a g pos')) pos.line X.env = pure false := by rfl) : SS X T W (.Assign [.Attribute a g pos'] b pos) (mSetF cl i ma mb) :=
  ⟨PS.imp (ps_fld ho.pe hv.pe hs) fun D σ H ⟨av, r, e, m, re, rm, h⟩ => ⟨av, r, e, m, re, rm, okR_imp (okS_sB re h) fun y m1 h r1 H1 w g1 rm1 rv1 =>
    ⟨av, r1, e, m1, re.grow g1, rm1, okR_imp (okS_sB (re.grow g1) (h.grow g1)) fun o m2 h r2 H2 u g2 rm2 rv2 => by
      split at h
      · rename_i m3 hst
        obtain ⟨p, dx, fs, rfl, hp, hA, hZ, rm3⟩ := stF_ok nd hl hg rm2 rv2 (rv1.grow g2) hst
        exact ⟨p, _, dx, fs, rfl, hA, hc, hn, hZ, h r2 _ σ (g2.trans (grow_write hp)) rm3 (re.grow ((g1.trans g2).trans (grow_write hp)))⟩
      · exact h.elim⟩⟩⟩

/-! ### raise -/
def mRaise (c : Nat) : MS := fun e m => .exc c [] e m
theorem ss_raise (c : Nat) {mt : Str} {j : Nat} {p p2 pos' : Pos} {bmB : List Value} {B newId initId : String} (hc : X.calm = true) (tk : Takes X W) (F : ExcBaseFacts B newId initId bmB) (q : PySem.W.excIn X.K (T.cA c) bmB newId = true) (gC : X.mg x = some (.ref (T.cA c))) (kC : PySem.W.keepIn X.K (.ref (T.cA c)) = true)
    (rs : Raises X (.ref (T.cA c))) (hg : Gl X x) (hdb : (x == ("__debug__" : Str)) = false := by decide) : SS X T W (.Raise (some (.Call (.Name x p) [.Constant (.str mt) j p2] [] pos')) none pos) (mRaise c) :=
  ⟨PS.imp (ps_raise hc tk (pmk_own F q gC kC rs hg hdb)) fun D σ H ⟨av, r, e, m, re, rm, h⟩ => h r H σ _ none .refl rm re ⟨rfl, .inl rfl⟩⟩
/-- an error's __init__ with one field -/
def spI (C : Addr) (fl : Str) : Sp := fun vs H Q _ => ∃ (a : Addr) (v : V), vs = [.ref a, v] ∧ H a = some (exo a C none) ∧ ∀ dx, H dx = none → dx ≠ a → Q .non (upd (upd H dx (exd dx [(fl, v)])) a (exo a C (some dx)))
def mRaise1 (c : Nat) (me : ME) : MS := fun e m => sB (me e m) e fun v m1 => .exc c [v] e m1
theorem ss_raise1 (c : Nat) {fl : Str} {fI : Addr} {CX : CXT} (hc : X.calm = true) (tk : Takes X W) (hN : T.cN c = [fl]) (T0 : OexC X.K (T.cA c)) (iC : PySem.W.findIn X.K (.ref (T.cA c)) "__init__" = some (some (.ref fI))) (tI : PySem.W.typeIn X.K (.ref fI) = some (.type "function"))
    (F1 : FnOk X.prog X.w X.K X.mg X.base CX k fI fd ps (spI (T.cA c) fl)) (hr : Room (k + 1) X.A) (hb : Binds X.K fd ps []) (hx : Passes CX X (fun _ _ _ => False)) (hg : Gl X x) (hm : X.mg x = some (.ref (T.cA c))) (ha : SE X T W a ma) {pos' : Pos}
    (hdb : (x == ("__debug__" : Str)) = false := by decide) (hsa : starEach [a] X.env = (false, eval a X.env) :: starEach [] X.env := by rfl) : SS X T W (.Raise (some (.Call (.Name x p) [a] [] pos')) none pos) (mRaise1 c ma) :=
  ⟨PS.imp (ps_raise hc tk (pmk_oex (dvs := []) (ds := []) T0 iC tI F1 hr hb .nil hx hg hm (pa_cons ha.pe pa_nil hsa) hdb hsa (by rfl))) fun D σ H ⟨av, r, e, m, re, rm, h⟩ =>
    ⟨av, r, e, m, re, rm, okR_imp (okS_sB re h) fun v m1 h r1 H1 w g1 rm1 rv1 => by
      refine ⟨by simp, fun ai ha => ⟨ai, w, rfl, upd_same, fun dx hdx hne => ⟨rfl, dx, [(fl, w)], upd_same, by rw [upd_ne hne, upd_same], ?_, ?_⟩⟩⟩
      · rw [upd_ne hne] at hdx; exact hdx
      · rw [upd_ne hne] at hdx
        have f1 : ∀ b o, H1 b = some o → upd (del (upd (upd (upd H1 ai (exo ai (T.cA c) none)) dx (exd dx [(fl, w)])) ai (exo ai (T.cA c) (some dx))) ai) dx (.xd [(fl, w)]) b = some o := fun b o e => by
          have n1 : b ≠ dx := fun z => by rw [z, hdx] at e; cases e
          have n2 : b ≠ ai := fun z => by rw [z, ha] at e; cases e
          rw [upd_ne n1, del_ne n2, upd_ne n2, upd_ne n1, upd_ne n2]
          exact e
        have k1 : Kept H1 (upd (del (upd (upd (upd H1 ai (exo ai (T.cA c) none)) dx (exd dx [(fl, w)])) ai (exo ai (T.cA c) (some dx))) ai) dx (.xd [(fl, w)])) := fun b o e _ => f1 b o e
        have t1 : ∀ b, Hard H1 b → Hard (upd (del (upd (upd (upd H1 ai (exo ai (T.cA c) none)) dx (exd dx [(fl, w)])) ai (exo ai (T.cA c) (some dx))) ai) dx (.xd [(fl, w)])) b := fun b ⟨u, e, t⟩ => ⟨u, f1 b u e, t⟩
        have g2 : Grow r1 H1 r1 (upd (del (upd (upd (upd H1 ai (exo ai (T.cA c) none)) dx (exd dx [(fl, w)])) ai (exo ai (T.cA c) (some dx))) ai) dx (.xd [(fl, w)])) := ⟨⟨[], by simp, by simp⟩, fun b o e _ t => f1 b o e, t1⟩
        exact h r1 _ σ _ _ (g1.trans g2) (rm1.stay k1 t1 (rm1.tb.ext f1)) (re.grow (g1.trans g2)) ⟨rfl, .inr ⟨dx, [(fl, w)], rfl, ⟨rm1.freshA hdx, rm1.fresh hdx⟩, upd_same, by rw [hN]; rfl, by unfold RVs; exact ⟨w, [], rfl, rv1.grow g2, by unfold RVs; rfl⟩⟩⟩⟩⟩

end M

namespace M
open PySem PySem.Spec PyProof.Rows L2

/-! ### try with clauses, some of which bind the exception -/
abbrev Cl := Value × Option Nat × (Addr → Value → Option Addr → TS)
/-- D behind a clause that unbinds slot i -/
abbrev Ends.off (D : Ends) (i : Nat) : Ends := { nx := fun σ H => D.nx (σ.set i none) H, rt := D.rt, bk := fun σ H => D.bk (σ.set i none) H, ct := fun σ H => D.ct (σ.set i none) H }
def clS (D : Ends) (o : Option Nat) (ts : Addr → Value → Option Addr → TS) (a : Addr) (cls : Value) (d : Option Addr) (σ : L2.St) (H : Hp) : Prop := match o with
  | none => ts a cls d D σ H
  | some i => ts a cls d (Ends.off D i) (σ.set i (some (.ref a))) H
def wMix (K : PySem.W.Frag) (Wz : WX) (D : Ends) : List Cl → WX
  | [] => Wz
  | (c, o, ts) :: l => fun cls d σ H => ∃ yes, PySem.W.exmOne K cls c = some yes ∧ (yes = true → ∀ a, H a = none → clS D o ts a cls d σ H) ∧ (yes = false → wMix K Wz D l cls d σ H)
/-- how the clause's name is bound -/
def NmOk (X : Cx) : Option Nat → Option Str → Prop
  | none, none => True
  | some i, some n => X.N[i]? = some n ∧ X.env.kindOf n = some .local
  | _, _ => False
/-- .. of slots as many as names -/
abbrev wLen (X : Cx) (W : WX) : WX := fun cls d σ H => σ.length = X.N.length → W cls d σ H
inductive HdM (X : Cx) : List ExceptHandler → List Cl → Prop
  | nil : HdM X [] []
  | cons {x : Str} {c : Value} {o : Option Nat} {n : Option Str} {ts : Addr → Value → Option Addr → TS} {q : Stmt} {qs : List Stmt} {p1 p2 : Pos} {hs : List ExceptHandler} {l : List Cl} (hc : Names X x c) (hn : NmOk X o n)
      (hq : ∀ (a : Addr) (ob : Obj) (cls : Value) (d : Option Addr) (pn : List (Addr × Obj)), Zc cls d ob → (∃ vs, ob.data = .fields vs) → PSs (X.suite a ((a, ob) :: pn)) (q :: qs) (ts a cls d)) (r : HdM X hs l) :
      HdM X (.ExceptHandler (some (.Name x p1)) n (q :: qs) p2 :: hs) ((c, o, ts) :: l)
section
variable {X : Cx} {body : List Stmt} {hd : ExceptHandler} {hs : List ExceptHandler} {l : List Cl} {pos : Pos} {tb : WX → TS} {Wz : WX}
theorem ps_try_mix (hstk : X.stack = X.env :: X.outer) (hloc : X.env.frame = some X.env.locals) (hN : X.N.Nodup) (tk : Takes X Wz)
    (hb : ∀ (W : WX) (pn : List (Addr × Obj)) (xe : Value → Shared → Prop), Takes (X.tr pn xe) W → PassesOwn (model X.prog X.w) X.A X.env xe → PSs (X.tr pn xe) body (tb W))
    (hh : HdM X (hd :: hs) l) : PS X (.Try body (hd :: hs) [] [] pos) (fun D σ H => tb (wLen X (wMix X.K Wz D l)) D σ H) := by
  constructor
  intro pins s σ H D I h
  have okX := I.ok
  have hst : X.A.frames = some (X.env :: X.outer) := okX.frames.trans (congrArg some hstk)
  let catch_ : Value → Shared → Prop := fun e z1 => wpAny (model X.prog X.w) X.A (noteFrame e X.env) (fun _ z2 => wpAny (model X.prog X.w) X.A (setFlight e none) (fun _ z3 => wpAny (model X.prog X.w) X.A (handleBy e X.env (hd :: hs)) (SP X pins D) X.xe z3) X.xe z2) X.xe z1
  have hland : Takes (X.tr (X.pn ++ pins) catch_) (wLen X (wMix X.K Wz D l)) := by
    intro u sz ⟨a, B, sI, pins', σ', H', cls, d, eu, J', nb, up, sky, na, hos, ag, w⟩
    subst eu
    have J : Inv X pins σ' H' sI := J'.ofTry okX
    rw [hstk] at sky
    show wpAny _ X.A (noteFrame (.ref a) X.env) _ _ _
    refine Sky.land Zc.steady hst hloc sky fun g3 fl3 up3 => ?_
    have J3 : Inv X pins σ' H' { sz with heap := g3 } := J.landed nb fl3.1 (up.trans up3) hos ag
    obtain ⟨o3, v3, e3, z3, d3⟩ := fl3.there
    have off : a ∉ frs (X.env :: X.outer) := by
      intro hm
      obtain ⟨_, oo, eo, hne⟩ := fl3.2.2.1.mem hm
      cases e3.symm.trans eo
      exact hne _ d3
    have nl : a ≠ X.env.locals := fun z => off (List.mem_filterMap.mpr ⟨_, List.mem_cons_self, hloc.trans (congrArg some z.symm)⟩)
    have nf : a ∉ X.fs := fun hm => by
      obtain ⟨ev, hev, q⟩ := List.mem_filterMap.mp hm
      exact off (List.mem_filterMap.mpr ⟨ev, List.mem_cons_of_mem _ hev, q⟩)
    have S3 := J3.suite e3 d3 na nl nf
    have go : ∀ {hs' : List ExceptHandler} {l' : List Cl}, HdM X hs' l' → wMix X.K Wz D l' cls d σ' H' → wpAny (model X.prog X.w) X.A (handleBy (.ref a) X.env hs') (SP X pins D) X.xe { sz with heap := g3 } := by
      intro hs' l' hk
      induction hk with
      | nil =>
        intro w
        obtain ⟨_, _, _, ob, vs, tr, oT, ts', he, hz, hdt, h1, _⟩ := id fl3
        refine wpAny_handleBy_nil ?_
        have fin : wpAny (model X.prog X.w) X.A (setFlight (.ref a) X.env.frame) (fun _ z4 => wpAny (model X.prog X.w) X.A (throw (.ref a) : Sem Flow) (SP X pins D) X.xe z4) X.xe { sz with heap := g3 } := by
          rw [hloc]
          exact HandSPX.setFlight_upZ fl3 fun g4 fl4 up4 => wpAny_throw (tk _ _ ⟨a, B, sI, pins, σ', H', cls, d, rfl, J, nb, (up.trans up3).trans up4, .inr (.inr (by rw [hstk]; exact fl4)), na, hos, ag, w⟩)
        unfold PySem.passOn
        refine wpAny_bind (wpAny_field he hdt h1 ?_)
        rw [if_neg (by simp : ¬ ((Value.ref tr == Value.none) = true))]
        first | exact wpAny_bind (wpAny_pure (wpAny_bind fin)) | exact wpAny_bind fin
      | @cons x c o n ts q qs p1 p2 hs2 l2 hc hn hq r ih =>
        intro w
        obtain ⟨yes, hy, wy, wn⟩ := w
        refine wpAny_handleBy_cons (codeAny_handlers_test ?_) (fun z => nomatch z)
        have look : PySem.W.Looks (model X.prog X.w) g3 (typeOf (.ref a)) cls := fun A Q E s k q => wpAny_typeOf_ref (k _ _ e3) (by rw [z3.1]; exact q)
        have look2 := PySem.W.exm_one (M := model X.prog X.w) J3.kIn look hy
        have named : ∀ {Q : Value → Shared → Prop} {E : Value → Shared → Prop}, Q c { sz with heap := g3 } → wpAny (model X.prog X.w) (X.A.mark (some (.ref a))) (eval (.Name x p1) X.env) Q E { sz with heap := g3 } := by
          intro Q E k
          obtain ⟨hg, hdb, hm⟩ := hc
          rcases hm with hm | ⟨hm, hv, hnn⟩
          · exact ld_glob (X := X.suite a ((a, o3) :: (X.pn ++ pins))) S3 hg hm k hdb
          · exact ld_blt (X := X.suite a ((a, o3) :: (X.pn ++ pins))) S3 hg hm hv k hnn hdb
        refine named (look2.here ?_)
        cases yes with
        | false => exact ih (wn rfl)
        | true =>
          cases o with
          | none =>
            cases n with
            | some n => exact hn.elim
            | none =>
              refine codeAny_handlers_suite (HandSPX.lands_againZ fl3 fun g4 fl4 up4 => ?_)
              obtain ⟨o4, v4, e4, z4, d4⟩ := fl4.there
              have J4 : Inv X pins σ' H' { sz with heap := g4 } := J.landed nb fl4.1 ((up.trans up3).trans up4) hos ag
              have S4 := J4.suite e4 d4 na nl nf
              refine wpAny_mono ((hq a o4 cls d (X.pn ++ pins) z4 ⟨_, d4⟩).run [] _ _ H' _ S4 (wy rfl a na)) (fun f z6 hp => ?_) (fun _ _ z => z.elim)
              cases f with
              | ret u => obtain ⟨v, σ6, H6, S6, rv, k⟩ := hp; exact ⟨v, σ6, H6, S6.unsuite okX, rv, k⟩
              | next => obtain ⟨σ6, H6, S6, k⟩ := hp; exact ⟨σ6, H6, S6.unsuite okX, k⟩
              | brk => obtain ⟨σ6, H6, S6, k⟩ := hp; exact ⟨σ6, H6, S6.unsuite okX, k⟩
              | cont => obtain ⟨σ6, H6, S6, k⟩ := hp; exact ⟨σ6, H6, S6.unsuite okX, k⟩
          | some i =>
            cases n with
            | none => exact hn.elim
            | some n =>
              obtain ⟨hi, hl⟩ := hn
              refine codeAny_handlers_suite_as (HandSPX.lands_againZ fl3 fun g4 fl4 up4 => ?_)
              obtain ⟨o4, v4, e4, z4, d4⟩ := fl4.there
              have J4 : Inv X pins σ' H' { sz with heap := g4 } := J.landed nb fl4.1 ((up.trans up3).trans up4) hos ag
              have S4 := J4.suite e4 d4 na nl nf
              refine store_ok (X := X.suite a ((a, o4) :: (X.pn ++ pins))) (v := .ref a) S4 hN hi (.inl hl) rfl (fun z5 S5 => ?_) (.inr hl)
              refine wpAny_mono ((hq a o4 cls d (X.pn ++ pins) z4 ⟨_, d4⟩).run [] z5 _ H' _ S5 (wy rfl a na)) (fun f z6 hp => ?_) (fun _ _ z => z.elim)
              have fin : ∀ {σ6 : L2.St} {H6 : Hp} {Q : Shared → Prop}, Inv (X.suite a ((a, o4) :: (X.pn ++ pins))) [] σ6 H6 z6 → (∀ z7, Inv X pins (σ6.set i none) H6 z7 → Q z7) → wpAny (model X.prog X.w) X.A (do bindName X.env n .none; unbindBehindTheSuite X.env n p2) (fun _ z7 => Q z7) X.xe z6 := fun S6 k => gone_ok (S6.unsuite okX) hN hi hl k
              cases f with
              | ret u => obtain ⟨v, σ6, H6, S6, rv, k⟩ := hp; exact fin S6 fun z7 J7 => ⟨v, _, H6, J7, rv, k⟩
              | next => obtain ⟨σ6, H6, S6, k⟩ := hp; exact fin S6 fun z7 J7 => ⟨_, H6, J7, k⟩
              | brk => obtain ⟨σ6, H6, S6, k⟩ := hp; exact fin S6 fun z7 J7 => ⟨_, H6, J7, k⟩
              | cont => obtain ⟨σ6, H6, S6, k⟩ := hp; exact fin S6 fun z7 J7 => ⟨_, H6, J7, k⟩
    exact go hh (w J.len)
  refine wpAny_Try_except (wpAny_mono ((hb (wLen X (wMix X.K Wz D l)) (X.pn ++ pins) catch_ hland PassesOwn.looking).run [] s σ H D (I.toTry _) h) (fun f z1 hp => ?_) (fun e z1 he => he))
  cases f with
  | ret u => obtain ⟨v, σ', H', J', rv, k⟩ := hp; exact ⟨v, σ', H', J'.ofTry okX, rv, k⟩
  | next => obtain ⟨σ', H', J', k⟩ := hp; exact wpAny_execs_nil ⟨σ', H', J'.ofTry okX, k⟩
  | brk => obtain ⟨σ', H', J', k⟩ := hp; exact ⟨σ', H', J'.ofTry okX, k⟩
  | cont => obtain ⟨σ', H', J', k⟩ := hp; exact ⟨σ', H', J'.ofTry okX, k⟩
end
end M

namespace M
open PySem PySem.Spec PyProof.Rows L2
variable {X : Cx} {T : Tx} {W : WX} {a b c : Expr} {ma mb mc : ME} {mt mu : MT} {ms mv : MS} {pos : Pos} {st : Stmt} {rest sts : List Stmt}
variable {av av' : Av} {r r' r2 : List Addr} {H H' H2 : Hp} {m m' : Mem}

/-! ### the exception of a suite -/
/-- T, the suite holding the exception at q, its dict at d -/
abbrev Tx.hold (T : Tx) (q d : Addr) : Tx := { T with ex := some (q, d) }
mutual
theorem RV.hold {q d : Addr} (h0 : T.ex = none) : ∀ (x : PV) {v : V}, RV T av r H x v → RV (T.hold q d) av r H x v
  | .non, _, h => by unfold RV at *; exact h
  | .bl _, _, h => by unfold RV at *; exact h
  | .int _, _, h => by unfold RV at *; exact h
  | .str _, _, h => by unfold RV at *; exact h
  | .tup xs, _, h => by
    unfold RV at *
    obtain ⟨a, vs, e, h1, h2⟩ := h
    exact ⟨a, vs, e, h1, RVs.hold h0 xs h2⟩
  | .kst xs, _, h => by
    unfold RV at *
    obtain ⟨a, vs, e, k, h2⟩ := h
    exact ⟨a, vs, e, k, RVs.hold h0 xs h2⟩
  | .lst xs, _, h => by
    unfold RV at *
    obtain ⟨a, vs, e, o, k, h2⟩ := h
    exact ⟨a, vs, e, o, k, RVs.hold h0 xs h2⟩
  | .ins c ws, _, h => by
    unfold RV at *
    obtain ⟨a, dx, fs, e, o, k, n, h2⟩ := h
    exact ⟨a, dx, fs, e, o, k, n, RVs.hold h0 ws h2⟩
  | .dtt ks ws, _, h => by
    unfold RV at *
    obtain ⟨a, kvs, e, o, k, nm, h2⟩ := h
    exact ⟨a, kvs, e, o, k, nm, RVs.hold h0 ws h2⟩
  | .exn c ws, _, h => by
    unfold RV at h
    obtain ⟨a, dx, fs, ex, _⟩ := h
    rw [h0] at ex
    cases ex
  | .dct ks ws, _, h => by
    unfold RV at *
    obtain ⟨a, vs, e, o, k, h2⟩ := h
    exact ⟨a, vs, e, o, k, RVs.hold h0 ws h2⟩
  | .glo _, _, h => by unfold RV at *; exact h
  | .ref i, _, h => by unfold RV at *; exact h
theorem RVs.hold {q d : Addr} (h0 : T.ex = none) : ∀ (xs : List PV) {vs : List V}, RVs T av r H xs vs → RVs (T.hold q d) av r H xs vs
  | [], _, h => by unfold RVs at *; exact h
  | x :: xs, _, h => by
    unfold RVs at *
    obtain ⟨v, ws, e, h1, h2⟩ := h
    exact ⟨v, ws, e, RV.hold h0 x h1, RVs.hold h0 xs h2⟩
end
mutual
theorem RV.let_ {q d : Addr} : ∀ (x : PV) {v : V}, noRef x = true → RV (T.hold q d) av r H x v → RV T av r H x v
  | .non, _, _, h => by unfold RV at *; exact h
  | .bl _, _, _, h => by unfold RV at *; exact h
  | .int _, _, _, h => by unfold RV at *; exact h
  | .str _, _, _, h => by unfold RV at *; exact h
  | .tup xs, _, n, h => by
    unfold noRef at n
    unfold RV at *
    obtain ⟨a, vs, e, h1, h2⟩ := h
    exact ⟨a, vs, e, h1, RVs.let_ xs n h2⟩
  | .kst xs, _, n, h => by
    unfold noRef at n
    unfold RV at *
    obtain ⟨a, vs, e, k, h2⟩ := h
    exact ⟨a, vs, e, k, RVs.let_ xs n h2⟩
  | .lst xs, _, n, h => by
    unfold noRef at n
    unfold RV at *
    obtain ⟨a, vs, e, o, k, h2⟩ := h
    exact ⟨a, vs, e, o, k, RVs.let_ xs n h2⟩
  | .ins c ws, _, n, h => by
    unfold noRef at n
    unfold RV at *
    obtain ⟨a, dx, fs, e, o, k, nm, h2⟩ := h
    exact ⟨a, dx, fs, e, o, k, nm, RVs.let_ ws n h2⟩
  | .dtt ks ws, _, n, h => by
    unfold noRef at n
    unfold RV at *
    obtain ⟨a, kvs, e, o, k, nm, h2⟩ := h
    exact ⟨a, kvs, e, o, k, nm, RVs.let_ ws n h2⟩
  | .exn c ws, _, n, h => by unfold noRef at n; cases n
  | .dct ks ws, _, n, h => by
    unfold noRef at n
    unfold RV at *
    obtain ⟨a, vs, e, o, k, h2⟩ := h
    exact ⟨a, vs, e, o, k, RVs.let_ ws n h2⟩
  | .glo _, _, _, h => by unfold RV at *; exact h
  | .ref i, _, n, h => by unfold noRef at n; cases n
theorem RVs.let_ {q d : Addr} : ∀ (xs : List PV) {vs : List V}, noRefs xs = true → RVs (T.hold q d) av r H xs vs → RVs T av r H xs vs
  | [], _, _, h => by unfold RVs at *; exact h
  | x :: xs, _, n, h => by
    unfold noRefs at n
    rw [Bool.and_eq_true] at n
    unfold RVs at *
    obtain ⟨v, ws, e, h1, h2⟩ := h
    exact ⟨v, ws, e, RV.let_ x n.1 h1, RVs.let_ xs n.2 h2⟩
end
/-- what the reading of an exception's own field asks of its class -/
structure ExF (K : PySem.W.Frag) (C : Addr) (fl : Str) : Prop where
  ga : PySem.W.findIn K (.ref C) "__getattribute__" = some (some (.builtin "BaseException.__getattribute__"))
  gg : PySem.W.findIn K (.ref C) "__getattr__" = some none
  sub : PySem.W.subIn K (.ref C) (.type "BaseException") = some true
  hd : PySem.W.hasDictIn K C = true
  no : PySem.W.findIn K (.ref C) fl = some none
def mExF (cl i : Nat) (ma : ME) : ME := fun e m => (ma e m).bind fun x m1 => match x with
  | .exn c ws => if c == cl then match ws[i]? with
      | some w => .ok w m1
      | none => .bad
    else .bad
  | _ => .bad
theorem se_exf {q dx : Addr} {ob : Obj} {pn : List (Addr × Obj)} {cl i : Nat} {fl : Str} (F : ExF X.K (T.cA cl) fl) (hz : Zc (.ref (T.cA cl)) (some dx) ob) (hf : ∃ vs, ob.data = .fields vs) (he : SE (X.suite q ((q, ob) :: pn)) (T.hold q dx) W a ma)
    (nd : (T.cN cl).Nodup) (hi : (T.cN cl)[i]? = some fl) (hb : attributeBase a fl X.env (eval a X.env) = eval a X.env := by rfl) : SE (X.suite q ((q, ob) :: pn)) (T.hold q dx) W (.Attribute a fl pos) (mExF cl i ma) := by
  refine ⟨⟨fun pins s σ H Q I ⟨av, r, e, m, re, rm, h⟩ => ?_⟩⟩
  refine attr_of hb (thn (he.pe.run pins s σ H (fun x H1 => x = .ref q ∧ ∃ fs v, H1 dx = some (.xd fs) ∧ fs.lookup fl = some v ∧ Q v H1) I ⟨av, r, e, m, re, rm, okR_imp (okR_bind h) fun x m1 k r1 H1 w g1 rm1 rv => ?_⟩) fun u s1 hh => ?_)
  · split at k
    · rename_i c ws
      split at k
      · rename_i hc
        have ec := eq_of_beq hc
        subst ec
        split at k
        · rename_i w' hw
          unfold RV at rv
          obtain ⟨q', dx', fs, ex, rfl, o, d, n, h2⟩ := rv
          cases ex
          obtain ⟨v, hv, rv⟩ := h2.get hw
          exact ⟨rfl, fs, v, d, lookup_at (by rw [n]; exact nd) (by rw [n]; exact hi) hv, k r1 H1 v g1 rm1 rv⟩
        · exact k.elim
      · exact k.elim
    · exact k.elim
  · obtain ⟨x, H1, I1, rx, ex, fs, v, ea, hl, hq⟩ := hh
    subst ex
    cases rx
    obtain ⟨ha, _⟩ := I1.pin (q, ob) (List.mem_append_left _ List.mem_cons_self)
    obtain ⟨vs, hd⟩ := hf
    obtain ⟨mA, hns, hr⟩ := (I1.hok dx _ ea : ObjOk X.prog X.w H1 s1.heap dx (.xd fs))
    obtain ⟨od, ho, hlk⟩ := lookIn_ns hns
    obtain ⟨u, hu, ru⟩ := RelO.some_of (v := v) (o := mA fl) (by rw [← hl]; exact hr fl)
    have J : PySem.W.InstAt s1.heap q ob (T.cA cl) (some od) := ⟨ha, hz.1, by unfold PySem.W.notCls; rw [hd] <;> rfl, by rw [hz.2]; exact ho⟩
    exact HandSPX.exc_get I1.kIn J F.ga F.gg F.sub (PySem.W.findObj_own F.hd F.no rfl (by rw [hlk, hu])) (handed_of ru) ⟨v, H1, I1.tok _, ru, hq⟩
end M

namespace M
open PySem PySem.Spec PyProof.Rows L2
variable {X : Cx} {T : Tx} {W : WX} {ma mb mc : ME} {mt mu : MT} {ms mv : MS} {pos : Pos} {st : Stmt} {rest sts : List Stmt}
variable {av av' : Av} {r r' r2 : List Addr} {H H' H2 : Hp} {m m' : Mem}

/-! ### a def that calls what it gets, and tells what was raised -/
/-- a clause: the class, the slot of its exception, the suite -/
abbrev Hd := Nat × Option Nat × MS
def suiteS (e : Env) (ms : MS) (m : Mem) : Res PV := match ms e [] with
  | .rt v _ => if noRef v then .ok v m else .bad
  | _ => .bad
def metH (n : Nat) : List Hd → Nat → List PV → Mem → Res PV
  | [], _, _, _ => .bad
  | (c', none, ms) :: l, c, ws, m => if c == c' then suiteS (List.replicate n none) ms m else metH n l c ws m
  | (c', some i, ms) :: l, c, ws, m => if c == c' then (if !ws.isEmpty && noRefs ws then suiteS ((List.replicate n none).set i (some (.exn c ws))) ms m else .bad) else metH n l c ws m
def mMet (n nX : Nat) (l : List Hd) (fine : MS) (mb : ME) : ME := fun e m => match mb e m with
  | .ok _ m1 => suiteS (List.replicate n none) fine m1
  | .exc c ws m1 => if Nat.blt c nX then metH n l c ws m1 else .bad
  | .bad => .bad
abbrev WF : WX := fun _ _ _ _ => False
def tSu (T : Tx) (c : Nat) (ms : MS) : Option Nat → Addr → Value → Option Addr → TS
  | none => fun _ _ _ => tS T WF ms
  | some _ => fun q cls d D σ H => ∃ dx, d = some dx ∧ cls = .ref (T.cA c) ∧ tS (T.hold q dx) WF ms D σ H
inductive HdS (X : Cx) (T : Tx) (nX : Nat) : List ExceptHandler → List Hd → Prop
  | nil : HdS X T nX [] []
  | plain {x : Str} {c : Nat} {ms : MS} {q : Stmt} {qs : List Stmt} {p1 p2 : Pos} {hs : List ExceptHandler} {l : List Hd} (hl : c < nX) (hc : Names X x (.ref (T.cA c)))
      (hq : ∀ (a : Addr) (ob : Obj) (pn : List (Addr × Obj)), SB (X.suite a ((a, ob) :: pn)) T WF (q :: qs) ms) (r : HdS X T nX hs l) : HdS X T nX (.ExceptHandler (some (.Name x p1)) none (q :: qs) p2 :: hs) ((c, none, ms) :: l)
  | bound {x n : Str} {c i : Nat} {ms : MS} {q : Stmt} {qs : List Stmt} {p1 p2 : Pos} {hs : List ExceptHandler} {l : List Hd} (hl : c < nX) (hc : Names X x (.ref (T.cA c))) (hi : X.N[i]? = some n) (hk : X.env.kindOf n = some .local)
      (hq : ∀ (a dx : Addr) (ob : Obj) (pn : List (Addr × Obj)), Zc (.ref (T.cA c)) (some dx) ob → (∃ vs, ob.data = .fields vs) → SB (X.suite a ((a, ob) :: pn)) (T.hold a dx) WF (q :: qs) ms) (r : HdS X T nX hs l) :
      HdS X T nX (.ExceptHandler (some (.Name x p1)) (some n) (q :: qs) p2 :: hs) ((c, some i, ms) :: l)
abbrev clOf (T : Tx) (l : List Hd) : List Cl := l.map fun x => (.ref (T.cA x.1), x.2.1, tSu T x.1 x.2.2 x.2.1)
theorem HdS.toM {nX : Nat} {hs : List ExceptHandler} {l : List Hd} (h : HdS X T nX hs l) : HdM X hs (clOf T l) := by
  induction h with
  | nil => exact .nil
  | plain hl hc hq _ ih => exact .cons hc trivial (fun a ob cls d pn _ _ => (hq a ob pn).ps) ih
  | @bound x n c i ms q qs p1 p2 hs l hl hc hi hk hq _ ih =>
    refine .cons hc ⟨hi, hk⟩ (fun a ob cls d pn hz hf => ⟨fun pins s σ H D I h => ?_⟩) ih
    obtain ⟨dx, rfl, rfl, h⟩ := h
    exact (hq a dx ob pn hz hf).ps.run pins s σ H D I h
theorem HdS.lt {nX : Nat} {hs : List ExceptHandler} {l : List Hd} (h : HdS X T nX hs l) : ∀ x ∈ l, x.1 < nX := by
  induction h with
  | nil => exact fun x hx => nomatch hx
  | plain hl _ _ _ ih => exact fun x hx => (List.mem_cons.mp hx).elim (fun z => z ▸ hl) (ih x)
  | bound hl _ _ _ _ _ ih => exact fun x hx => (List.mem_cons.mp hx).elim (fun z => z ▸ hl) (ih x)
theorem re_blank : ∀ σ : L2.St, RE T av r H (List.replicate σ.length none) σ
  | [] => .nil
  | _ :: σ => .cons (fun _ z => nomatch z) (re_blank σ)
theorem suiteS_ok {e : Env} {Wr : Value → Option Addr → Hp → Prop} {K : PV → Mem → Prop} (h : okR T av r H Wr K (suiteS e ms m)) : ∃ v m2, ms e [] = .rt v m2 ∧ noRef v = true ∧ K v m := by
  unfold suiteS at h
  split at h
  · rename_i v m2 hv
    split at h
    · rename_i hn
      exact ⟨v, m2, hv, hn, h⟩
    · exact h.elim
  · exact h.elim
theorem suite_plain {Q : VK} {D : Ends} (hD : D.rt = Q) {σ : L2.St} {n : Nat} (hσ : σ.length = n) {Wr : Value → Option Addr → Hp → Prop} (g : Grow r H r' H') (rm : RM T av r' H' m) (h : okR T av r H Wr (KE T av r H Q) (suiteS (List.replicate n none) ms m)) : tS T WF ms D σ H' := by
  obtain ⟨v, m2, hv, hn, k⟩ := suiteS_ok h
  subst hσ
  refine ⟨AvR av r', [], List.replicate σ.length none, [], re_blank σ, rm.empty, ?_⟩
  rw [hv]
  intro r2 H3 w g2 rm3 rv
  rw [hD]
  exact k r' H3 w (g.trans g2.pure) (rm.stay g2.kept g2.there rm3.tb) (RV.move (fun _ o _ => out_back o) (fun _ _ e _ => e) v hn rv)
/-- each class is itself alone, as clauses look at it -/
def Apart (T : Tx) (nX : Nat) : Prop := ∀ c c', c < nX → c' < nX → PySem.W.exmOne T.K (.ref (T.cA c)) (.ref (T.cA c')) = some (c == c')
theorem metH_ok {nX : Nat} (hX : Apart T nX) (h0 : T.ex = none) {Q : VK} {D : Ends} (hD : D.rt = Q) {σ : L2.St} {n : Nat} (hσ : σ.length = n) {Wr : Value → Option Addr → Hp → Prop} {c : Nat} {ws : List PV} {cls : Value} {d : Option Addr} (hc : c < nX) (g : Grow r H r' H') (rm : RM T av r' H' m) (rx : RX T av r' H' c ws cls d) :
    ∀ {l : List Hd}, (∀ x ∈ l, x.1 < nX) → okR T av r H Wr (KE T av r H Q) (metH n l c ws m) → wMix T.K WF D (clOf T l) cls d σ H'
  | [], _, h => h.elim
  | (c', none, ms) :: l, hl, h => by
    unfold metH at h
    refine ⟨c == c', by rw [rx.1]; exact hX c c' hc (hl _ List.mem_cons_self), fun hy q hq => ?_, fun hn => ?_⟩
    · rw [if_pos hy] at h
      exact suite_plain hD hσ g rm h
    · rw [if_neg (by rw [hn]; exact Bool.false_ne_true)] at h
      exact metH_ok hX h0 hD hσ hc g rm rx (fun x hx => hl x (List.mem_cons_of_mem _ hx)) h
  | (c', some i, ms) :: l, hl, h => by
    unfold metH at h
    refine ⟨c == c', by rw [rx.1]; exact hX c c' hc (hl _ List.mem_cons_self), fun hy q hq => ?_, fun hn => ?_⟩
    · rw [if_pos hy] at h
      have e1 := eq_of_beq hy
      subst e1
      split at h
      · rename_i hw
        rw [Bool.and_eq_true, Bool.not_eq_true'] at hw
        obtain ⟨v, m2, hv, hn, k⟩ := suiteS_ok h
        rcases rx.2 with z | ⟨dx, fs, ed, o, hx, nm, rvs⟩
        · rw [z] at hw; exact absurd hw.1 (by simp)
        · subst hσ
          refine ⟨dx, ed, rx.1, AvR av r', [], _, [], (re_blank σ).set (v := .exn c ws) ?_ i, ⟨rfl, List.nodup_nil, fun i o a h1 => by simp at h1, rm.tb, rm.empty.th, rm.empty.nt⟩, ?_⟩
          · unfold RV
            exact ⟨q, dx, fs, rfl, rfl, out_in o, hx, nm, RVs.hold h0 ws (RVs.move (fun b o _ => out_in o) (fun b o e _ => e) ws hw.2 rvs)⟩
          · refine (congrArg (okS (T.hold q dx) (AvR av r') [] H' WF (Ends.off D i)) hv).mpr ?_
            intro r2 H3 w g2 rm3 rv
            show D.rt w H3
            rw [hD]
            exact k r' H3 w (g.trans g2.pure) (rm.stay g2.kept g2.there rm3.tb) (RV.move (fun _ o _ => out_back o) (fun _ _ e _ => e) v hn (RV.let_ v hn rv))
      · exact h.elim
    · rw [if_neg (by rw [hn]; exact Bool.false_ne_true)] at h
      exact metH_ok hX h0 hD hσ hc g rm rx (fun x hx => hl x (List.mem_cons_of_mem _ hx)) h

section
variable {x a : Str} {g c P : Addr} {k nX : Nat} {stm : Stmt} {fd : FuncData} {Ng : List Str} {params : Arguments} {body : Expr} {scope : Scope} {lpos p p1 p2 p3 p4 : Pos} {hd : ExceptHandler} {hs : List ExceptHandler} {rest : List Stmt} {l : List Hd} {fine : MS} {mb : ME}
/-- what the def makes of the lambda's reading -/
def TMet (T : Tx) (n : Nat) (l : List Hd) (fine : MS) : (XK → Hp → VK → Prop) → Hp → VK → Prop := fun tl H Q =>
  tl (fun cls d H' => ∀ σ : L2.St, σ.length = n → wMix T.K WF { nx := fun σ H' => tS T WF fine { nx := fun _ H' => Q .non H', rt := Q } σ H', rt := Q } (clOf T l) cls d σ H') H
    (fun _ H' => ∀ σ : L2.St, σ.length = n → tS T WF fine { nx := fun _ H' => Q .non H', rt := Q } σ H')
/-- its context -/
abbrev metCx (X : Cx) (Ng : List Str) (x : Str) (sc : Scope) (g : Addr) (cdg : Value) (s : Shared) (H : Hp) : Cx := (cxOf C8.CX0 X.prog X.w X.K X.mg X.base Ng x sc g cdg X.A X.stack s H C8.E0).nox
theorem PE.wk {e : Expr} {t : TE} (h : PE X e t) : PE X e (fun σ H Q => ∃ Qe : VK, (∀ v H', Qe v H' → Q v H') ∧ t σ H Qe) :=
  ⟨fun pins s σ H Q I ⟨Qe, hq, k⟩ => thn (h.run pins s σ H Qe I k) fun u s1 ⟨y, H1, I1, ry, q⟩ => ⟨y, H1, I1, ry, hq _ _ q⟩⟩
theorem met_gives {cdg : Value} {q : Str} (hK : X.K = T.K) (hN : Ng.Nodup) (hNg : Ng[0]? = some a)
    (hH : ∀ (s : Shared) (H : Hp), HdS (metCx X Ng x (defScope stm) g cdg s H) T nX (hd :: hs) l) (hF : ∀ (s : Shared) (H : Hp), SB (metCx X Ng x (defScope stm) g cdg s H) T WF rest fine) :
    LamX.GivesTo X Ng x (defScope stm) g cdg (.Try [.Expr (.Call (.Name a p1) [] [] p2) p3] (hd :: hs) [] [] p4 :: rest) a q (TMet T Ng.length l fine) := by
  intro f c' s H Q tl act hc h
  have hl : (L2.start Ng [V.ref f]).length = Ng.length := by
    show (([V.ref f].map some) ++ List.replicate (Ng.length - [V.ref f].length) none).length = _
    cases Ng with
    | nil => cases hNg
    | cons y ys => simp
  refine ⟨_, pss_cons (ps_try_mix (X := metCx X Ng x (defScope stm) g cdg s H) (Wz := WF)
      (tb := fun W D σ H => ∃ Ech : XK, (∀ cls d σ' H', Ech cls d H' → W cls d σ' H') ∧ σ[0]? = some (some (.ref f)) ∧ H c' = some (LamX.CodeO c' q) ∧ ∃ Qe : VK, (∀ v H', Qe v H' → D.nx σ H') ∧ tl Ech H Qe)
      rfl rfl hN LamX.takes0 (fun W pn xe tk _ => ?_) (hH s H).toM) (hF s H).ps, ?_⟩
  · refine ⟨fun pins s' σ H' D I ⟨Ech, hW, h1, h2, Qe, h3, h4⟩ => ?_⟩
    exact (pss_one (ps_expr (M.PE.wk (act W pn xe Ech p1 p2 tk hW)))).run pins s' σ H' D I ⟨Qe, h3, h1, h2, h4⟩
  · refine ⟨fun cls d H' => ∀ σ : L2.St, σ.length = Ng.length → wMix T.K WF { nx := fun σ H' => tS T WF fine { nx := fun _ H' => Q .non H', rt := Q } σ H', rt := Q } (clOf T l) cls d σ H', fun cls d σ' H' e hn => ?_, rfl, hc, _, fun v H' k => k _ hl, h⟩
    have q := e σ' hn
    rw [← hK] at q
    exact q
/-- x(lambda: body): what the body answers, or how it is refused -/
theorem se_met {n : Nat} (h0 : T.ex = none) (hK : X.K = T.K) (hX : Apart T nX) (F : Fun X.K x x stm g fd) (hst : defBody stm = .Try [.Expr (.Call (.Name a p1) [] [] p2) p3] (hd :: hs) [] [] p4 :: rest) (Sg : FnScope Ng [a] (defScope stm)) (hNg : Ng[0]? = some a) (hva : Vis (defScope stm) a)
    (hH : ∀ (cdg : Value) (s : Shared) (H : Hp), HdS (metCx X Ng x (defScope stm) g cdg s H) T nX (hd :: hs) l) (hF : ∀ (cdg : Value) (s : Shared) (H : Hp), SB (metCx X Ng x (defScope stm) g cdg s H) T WF rest fine)
    (hn : Ng.length = n) (hg : Gl X x) (hm : X.mg x = some (.ref g)) (hb : L2.Binds X.K fd [a] []) (TB : LamX.TabB X.base X.mg c P) (hcode : X.env.code = .ref c) (hmT : (P, X.env.qual ++ "<lambda>") ∈ T.tb) (hu : ∀ p ∈ T.tb, p.1 = P → p.2 = X.env.qual ++ "<lambda>") (hr : Room (k + 2) X.A)
    (L : LamX.LamS X.env.scope scope) (hdef : defaultsOf params X.env = ([], [])) (hbind : ∀ (q : Str) (cl : List (Str × Addr)) (pm cv ctv : Value), bindArgs (PySem.W.kla_fn "<lambda>" q params body scope cl pm cv ctv) ⟨[], []⟩ = pure [])
    (hlam : ∀ (A : Around) (outer : List PySem.Env) (s : Shared) (H : Hp) (E : XK) (f c' : Addr), Room k (A.deeper (LamX.lamEnv X scope s.heap.objs.size f c')) → SE (LamX.lamCx X A outer s H E scope f c') T (WN E) body mb)
    (hdb : (x == ("__debug__" : Str)) = false := by decide) (hd' : (a == ("__debug__" : Str)) = false := by decide) (hcd : (a == ("__classdict__" : Str)) = false := by decide) :
    SE X T W (.Call (.Name x p) [.Lambda params body scope lpos] [] pos) (mMet n nX l fine mb) := by
  subst hn
  obtain ⟨oc, od, kV, doc, pm, an, cdv, ct, osl, ef, lk, hcd2⟩ := F.ex
  rw [hst] at ef
  subst ef
  refine ⟨PE.imp (LamX.pe_lamcall (T := T.tb) (k := k) (t := fun E => tE T (WN E) mb) hg hm F.kp lk hcd2 hb Sg hNg hva (met_gives (stm := stm) (p1 := p1) (p2 := p2) (p3 := p3) (p4 := p4) hK Sg.nd hNg (hH cdv) (hF cdv)) TB hcode hmT hu hr L hdef hbind
    (fun A outer s H E f c' hr => (hlam A outer s H E f c' hr).pe) hdb hd' hcd) fun σ H Q ⟨av, r, e, m, re, rm, h⟩ => ?_⟩
  refine ⟨rm.tb, fun H1 eN T1 => ?_⟩
  have k1 : Kept H H1 := fun b o e t => eN b o e (nTbl_ne t)
  have t1 : ∀ b, Hard H b → Hard H1 b := fun b ⟨o, e, t⟩ => ⟨o, k1 b o e t, t⟩
  have g1 : Grow r H r H1 := ⟨⟨[], by simp, by simp⟩, fun b o e _ t => k1 b o e (nTbl_of t), t1⟩
  refine ⟨av, r, e, m, RE.map (fun x v q => RV.stay k1 x q) re, rm.stay k1 t1 T1, ?_⟩
  unfold mMet at h
  cases hv : mb e m with
  | bad => rw [hv] at h; exact h
  | ok v m1 =>
    rw [hv] at h
    intro r2 H2 w g2 rm2 rv2 σ' hl'
    exact suite_plain rfl hl' (g1.trans g2) rm2 h
  | exc cc ws m1 =>
    rw [hv] at h
    intro r2 H2 cls d g2 rm2 rx σ' hl'
    replace h : okR T av r H (fun c d H' => W c d σ H') (KE T av r H Q) (if Nat.blt cc nX then metH Ng.length l cc ws m1 else .bad) := h
    split at h
    · rename_i hlt
      exact metH_ok hX h0 rfl hl' (Nat.blt_eq.mp hlt) (g1.trans g2) rm2 rx (hH .none X.s_0 H).lt h
    · exact h.elim
end
end M

namespace M
open PySem PySem.Spec PyProof.Rows L2
variable {X : Cx} {T : Tx} {W : WX} {a : Expr} {ma mb mc : ME} {mt mu : MT} {ms mv : MS} {pos : Pos} {st : Stmt} {rest sts : List Stmt}
variable {av av' : Av} {r r' r2 : List Addr} {H H' H2 : Hp} {m m' : Mem}
variable {x : Str} {p : Pos} {es : List Expr} {mr : MA} {f : Addr} {fd : FuncData} {ps : List Str} {k n : Nat} {mf : MF} {E : XK}

/-! ### defs of which is known that no repr is under way -/
structure FnG (P : Program) (w : World) (K : PySem.W.Frag) (mg : Str → Option Value) (base : Heap) (CX : CXT) (k : Nat) (f : Addr) (fd : FuncData) (ps : List Str) (sp : Sp) : Prop where
  many : ∀ vs H Q E, sp vs H Q E → vs.length = ps.length
  go : ∀ (A : Around) (outer : List PySem.Env) (s : Shared) (H : Hp) (g : Args) (us : List Value) (vs : List V) (Q : VK) (E : XK), A.guards = some [] → Room k A → Env0 P w K mg base A outer s H → BindsTo s fd g (ps.zip us) → Vals vs us → sp vs H Q E →
    codeAny (model P w) A (.call (.ref f) g) (CR CX outer P w H s Q E) s
theorem FnG.of {P : Program} {w : World} {K : PySem.W.Frag} {mg : Str → Option Value} {base : Heap} {CX : CXT} {sp : Sp} (F : FnOk P w K mg base CX k f fd ps sp) : FnG P w K mg base CX k f fd ps sp :=
  ⟨F.len, fun A outer s H g us vs Q E _ => F.run A outer s H g us vs Q E⟩
theorem run_fg {CX : CXT} {sp : Sp} {pins : List (Addr × Obj)} {σ : L2.St} {H : Hp} {s : Shared} {Q : VK} {us : List Value} {vs : List V} (F : FnG X.prog X.w X.K X.mg X.base CX k f fd ps sp) (gd : X.A.guards = some []) (hr : Room k X.A) (hb : Binds X.K fd ps []) (hx : Passes CX X E)
    (I : Inv X pins σ H s) (rv : Vals vs us) (h : sp vs H Q E) : wpAny (model X.prog X.w) X.A (call (.ref f) us) (EP X pins σ Q) X.xe s := by
  have hl : us.length = ps.length := rv.length.symm.trans (F.many vs H Q E h)
  have hbt := hb s us I.kIn (by rw [List.append_nil]; exact hl)
  rw [List.append_nil] at hbt
  refine wpAny_call (codeAny_mono (F.go X.A X.stack s H ⟨us, []⟩ us vs Q E gd hr I.env0 hbt rv h) fun res s' hq => ?_)
  rcases res with e | fl
  · exact hx pins σ H s e s' I hq
  · cases fl with
    | ret u => exact I.after hq
    | next => exact False.elim hq
    | brk => exact False.elim hq
    | cont => exact False.elim hq
theorem pe_callG {CX : CXT} {sp : Sp} {t : TA} (F : FnG X.prog X.w X.K X.mg X.base CX k f fd ps sp) (gd : X.A.guards = some []) (hr : Room k X.A) (hg : Gl X x) (hm : X.mg x = some (.ref f)) (hk : PySem.W.keepIn X.K (.ref f) = true) (hb : Binds X.K fd ps []) (hx : Passes CX X E) (ha : PA X (a :: es) t)
    (hdb : (x == ("__debug__" : Str)) = false) (he : starEach (a :: es) X.env = (false, eval a X.env) :: starEach es X.env) (hpl : (backTo pos (starEach es X.env)).any (·.1) = false) :
    PE X (.Call (.Name x p) (a :: es) [] pos) (fun σ H Q => t σ H fun vs H1 => sp vs H1 Q E) := by
  constructor
  intro pins s σ H Q I h
  refine wpAny_Call_Name_kw (ld_glob I hg hm (PySem.W.callWith_K (h₀ := X.base) I.ok.mod.kin hk (thn (ha.run pos pins s σ H _ I h) ?_) he hpl) hdb)
  intro us s1 ⟨vs, H1, I1, rv, q⟩
  exact ⟨I1.kIn, run_fg F gd hr hb hx I1 rv q⟩
theorem se_callG (F : FnG X.prog X.w X.K X.mg X.base (L2.CX X.prog X.w) k f fd ps (spM T n mf)) (gd : X.A.guards = some []) (hr : Room k X.A) (hg : Gl X x) (hm : X.mg x = some (.ref f)) (hk : PySem.W.keepIn X.K (.ref f) = true) (hb : Binds X.K fd ps []) (tk : Takes X (WN E)) (ha : SA X T (WN E) (a :: es) mr)
    (hdb : (x == ("__debug__" : Str)) = false := by decide) (he : starEach (a :: es) X.env = (false, eval a X.env) :: starEach es X.env := by rfl) (hpl : (backTo pos (starEach es X.env)).any (·.1) = false := by rfl) :
    SE X T (WN E) (.Call (.Name x p) (a :: es) [] pos) (mCall n mf mr) :=
  ⟨PE.imp (pe_callG F gd hr hg hm hk hb (passes_call tk (fun _ _ _ _ h => h)) ha.pa hdb he hpl) fun σ H Q ⟨av, r, e, m, re, rm, h⟩ =>
    ⟨av, r, e, m, re, rm, okR_imp (okR_bind h) fun xs m1 h r1 H1 vs g1 rm1 rv1 => sp_call rm1 rv1 (okR_grow g1 (fun _ _ q => KE.grow g1 q) h)⟩⟩
theorem guards_deeper (A : Around) (env : PySem.Env) : (A.deeper env).guards = A.guards := by rfl
section
variable {P : Program} {w : World} {K : PySem.W.Frag} {mg : Str → Option Value} {base : Heap}
/-- what a def's body answers, where nothing of a repr is under way -/
theorem fg_mk {qual : Str} {N : List Str} {body : MS} (F : Fun K x qual st f fd) (S : FnScope N ps (defScope st))
    (hb : ∀ (cdv : Value) (A : Around) (outer : List PySem.Env) (s : Shared) (H : Hp) (E : XK), A.guards = some [] → Room k (A.deeper (envOfC qual (defScope st) s.heap.objs.size f cdv)) →
      SB (cxOf (L2.CX P w) P w K mg base N qual (defScope st) f cdv A outer s H E) T (WN E) (defBody st) body) : FnG P w K mg base (L2.CX P w) (k + 1) f fd ps (spM T ps.length (mFn N.length body)) := by
  obtain ⟨oc, od, kV, doc, pm, an, cdv, ct, osl, rfl, lk, hcd⟩ := F.ex
  refine ⟨fun vs H Q E h => h.1, fun A outer s H g us vs Q E gd hr e0 hbt rv h => ?_⟩
  refine LamX.run_ofS (k := k) lk hcd S hr e0 hbt rv h.1 fun hr' => ?_
  refine ⟨_, (hb cdv A outer s H E gd hr').ps, ?_⟩
  obtain ⟨_, av, r, m, xs, rv, rm, h⟩ := h
  refine ⟨av, r, _, m, re_start rv, rm, ?_⟩
  unfold mFn at h
  split at h
  · rename_i e' m' hbd
    rw [hbd]
    exact fun r1 H1 σ1 g rm1 re1 => h r1 H1 .non g rm1 rv_non
  · rename_i v m' hbd
    rw [hbd]
    exact fun r1 H1 w g rm1 rv1 => h r1 H1 w g rm1 rv1
  · rename_i c ws e' m' hbd
    rw [hbd]
    exact fun r1 H1 σ1 cls d g rm1 re1 rx => h r1 H1 cls d g rm1 rx
  · exact h.elim
end
end M

namespace M
open PySem PySem.Spec PyProof.Rows L2

/-! ### the end: the law's def is entered where nothing of a repr is under way -/
section
variable {K : PySem.W.Frag} {a : Addr} {tt : List Addr} {ob : Obj} {xs : List V} {h : Heap}
/-- the script and the empty tables, nothing else -/
def Hs (K : PySem.W.Frag) (a : Addr) (tt : List Addr) (ob : Obj) (xs : List V) : Hp := fun b => if b ∈ tt then some (.tbl #[]) else if b = a ∧ (K.lookup a).isNone = true then some (.frz ob (.lst xs)) else none
theorem hs_tab {b : Addr} (hb : b ∈ tt) : Hs K a tt ob xs b = some (.tbl #[]) := if_pos hb
theorem hs_cases (b : Addr) : Hs K a tt ob xs b = none ∨ (b ∈ tt ∧ Hs K a tt ob xs b = some (.tbl #[])) ∨ (b = a ∧ b ∉ tt ∧ K.lookup a = none ∧ Hs K a tt ob xs b = some (.frz ob (.lst xs))) := by
  by_cases h1 : b ∈ tt
  · exact .inr (.inl ⟨h1, if_pos h1⟩)
  · by_cases h2 : b = a ∧ (K.lookup a).isNone = true
    · exact .inr (.inr ⟨h2.1, h1, Option.isNone_iff_eq_none.mp h2.2, (if_neg h1).trans (if_pos h2)⟩)
    · exact .inl ((if_neg h1).trans (if_neg h2))
theorem hs_none (ht : ∀ b ∈ tt, h.get? b = some { cls := .none, data := .fields #[] }) (ha : h.get? a = some ob) {b : Addr} {o : Obj} (e : h.get? b = some o) (n1 : o.data ≠ .fields #[]) (n2 : o.data ≠ ob.data) : Hs K a tt ob xs b = none := by
  rcases hs_cases (K := K) (a := a) (tt := tt) (ob := ob) (xs := xs) b with z | ⟨hb, z⟩ | ⟨rfl, _, _, z⟩
  · exact z
  · cases e.symm.trans (ht b hb)
    exact absurd rfl n1
  · cases e.symm.trans ha
    exact absurd rfl n2
end
theorem law_g {P : Program} {w : World} {K : PySem.W.Frag} {mg mb : Str → Option Value} {k : Nat} {fa a : Addr} {cs : List (Addr × Addr)} {fd : FuncData} {x : Str} {sp : Sp} {s₁ : Shared} {vs : List Value} {ns : List Int}
    (KX : K.In s₁.heap) (hns : s₁.heap.Ns mainGlobals mg) (hb : s₁.heap.Ns builtinsNs mb) (hbb : ∀ x : Str, x ≠ "__name__" → mb x = bootBuiltins x) (hlim : s₁.heap.NoLimit) (hg : s₁.gens = #[])
    (hT : ∀ p ∈ cs, s₁.heap.get? p.2 = some { cls := .none, data := .fields #[] }) (nT : ∀ p ∈ cs, K.lookup p.2 = none) (C : ∀ p ∈ cs, PySem.W.CodeHd s₁.heap p.1 p.2)
    (hbm : ∃ (bm : Addr) (ob : Obj), mg "__builtins__" = some (.ref bm) ∧ bm ≠ builtinsNs ∧ s₁.heap.get? bm = some ob ∧ ob.cls = .type "module" ∧ ob.dict = some builtinsNs ∧ ob.data = .plain)
    (ha : s₁.heap.get? a = some { cls := .type "list", data := .seq vs.toArray }) (hi : IntsAre vs ns) (hl : ns.length ≤ sizeLine) (hr : Room k callerA)
    (F : ∀ base : Heap, K.In base → base.Ns mainGlobals mg → (∀ p ∈ cs, LamX.TabB base mg p.1 p.2) → FnG P w K mg base (L2.CX P w) k fa fd [x] sp) (hbind : ∀ (s : Shared) (u : Value), BindsTo s fd ⟨[u], []⟩ [(x, u)])
    (hsp : ∀ H : Hp, (∀ p ∈ cs, H p.2 = some (.tbl #[])) → SqL K H a (ns.map V.int) → sp [.ref a] H (fun v _ => v = .bl true) fun _ _ _ => False) :
    codeAny (model P w) callerA (.call (.ref fa) ⟨[.ref a], []⟩) (fun r s' => r = .ok (.ret (.bool true)) ∧ OldK s₁.heap s'.heap ∧ s'.os = s₁.os ∧ AllBare s'.gens) s₁ := by
  have rv := vals_ints hi
  have ln := hi.length
  have hl2 : vs.length ≤ sizeLine := by rw [ln]; exact hl
  let so : Obj := { cls := .type "list", data := .seq vs.toArray }
  let tt := cs.map (·.2)
  have isT : ∀ b ∈ tt, s₁.heap.get? b = some { cls := .none, data := .fields #[] } := fun b hb => by
    obtain ⟨p, hp, rfl⟩ := List.mem_map.mp hb
    exact hT p hp
  have kT : ∀ b ∈ tt, K.lookup b = none := fun b hb => by
    obtain ⟨p, hp, rfl⟩ := List.mem_map.mp hb
    exact nT p hp
  have inT : ∀ p ∈ cs, p.2 ∈ tt := fun p hp => List.mem_map.mpr ⟨p, hp, rfl⟩
  have aT : a ∉ tt := fun z => by
    have q := ha.symm.trans (isT a z)
    cases q
  let H := Hs K a tt so (ns.map V.int)
  have hc : ∀ b, H b = none ∨ (b ∈ tt ∧ H b = some (.tbl #[])) ∨ (b = a ∧ b ∉ tt ∧ K.lookup a = none ∧ H b = some (.frz so (.lst (ns.map V.int)))) := fun b => hs_cases b
  have free : ∀ {b : Addr} {o : Obj}, s₁.heap.get? b = some o → o.data ≠ .fields #[] → o.data ≠ .seq vs.toArray → H b = none := fun e n1 n2 => hs_none isT ha e n1 n2
  have hH : ∀ p ∈ cs, H p.2 = some (.tbl #[]) := fun p hp => hs_tab (inT p hp)
  have hok : HOk P w H s₁.heap := fun b u z => by
    rcases hc b with q | ⟨hb, q⟩ | ⟨rfl, _, _, q⟩
    · rw [q] at z; cases z
    · cases q.symm.trans z
      exact isT b hb
    · cases q.symm.trans z
      exact ⟨ha, by rw [List.length_map]; exact hl, vs, _, rv, ha⟩
  have hS : SqL K H a (ns.map V.int) := by
    rcases hc a with q | ⟨hb, _⟩ | ⟨_, _, _, q⟩
    · cases hk : K.lookup a with
      | none =>
        have e : H a = some (.frz so (.lst (ns.map V.int))) := (if_neg aT).trans (if_pos ⟨rfl, by rw [hk]; rfl⟩)
        rw [q] at e; cases e
      | some o =>
        cases ha.symm.trans (KX a o hk)
        exact .inr ⟨_, vs.toArray, _, hk, rfl, rfl, rfl, by rw [List.size_toArray]; exact hl2, by simpa using rv⟩
    · exact absurd hb aT
    · exact .inl (.inr ⟨_, q⟩)
  have down : ∀ {b : Addr} {o : Obj}, s₁.heap.get? b = some o → o.data ≠ .fields #[] → o.data ≠ .seq vs.toArray → (hidT s₁.heap H).get? b = some o := fun e n1 n2 => hidT_get e (free e n1 n2)
  have nsD : ∀ {b : Addr} {m : Str → Option Value}, s₁.heap.Ns b m → (hidT s₁.heap H).Ns b m := fun {b m} ⟨o, es, ep, e, d, q⟩ => ⟨o, es, ep, down e (by rw [d]; nofun) (by rw [d]; nofun), d, q⟩
  have kD : K.In (hidT s₁.heap H) := fun b o e => hidT_get (KX b o e) (by
    rcases hc b with q | ⟨hb, _⟩ | ⟨rfl, _, hk, _⟩
    · exact q
    · rw [kT b hb] at e; cases e
    · rw [hk] at e; cases e)
  obtain ⟨mc, l1, l2⟩ := hlim
  have md : L2.Mod K mg (hidT s₁.heap H) := { kin := kD, glob := nsD hns, blt := ⟨mb, nsD hb, hbb⟩, nolimit := ⟨mc, nsD l1, l2⟩ }
  obtain ⟨bm, om, b1, b2, b3, b4, b5, b6⟩ := hbm
  obtain ⟨og, eg, epg, g1, g2, _⟩ := id hns
  have tb : ∀ p ∈ cs, LamX.TabB (hidT s₁.heap H) mg p.1 p.2 := fun p hp => by
    constructor
    · obtain ⟨o, us, file, tf, fl, tg, inF, tx, tn, e1, r1, r2, r3, rest⟩ := C p hp
      refine ⟨o, us, file, tf, fl, tg, inF, tx, tn, down e1 (fun z => ?_) (fun z => ?_), r1, r2, r3, rest⟩
      · rw [r2] at z
        cases z
        simp at r3
      · rw [r2] at z
        cases z
    · refine ⟨bm, om, b1, b2, fun z => ?_, fun z => ?_, down b3 (by rw [b6]; nofun) (by rw [b6]; nofun), b4, b5, b6⟩
      · rw [z, g1] at b3
        cases b3
        rw [g2] at b6
        cases b6
      · rw [z, hT p hp] at b3
        cases b3
        cases b6
    · intro z
      rw [z, hT p hp] at g1
      cases g1
      cases g2
  have e0 : Env0 P w K mg (hidT s₁.heap H) callerA [] s₁ H := { frames := rfl, mod := md, bs := fun b o e => of_hidT e, bsz := Nat.le_of_eq (hidT_size _ _), funs := trivial, frf := (fun b hb => absurd (show b ∈ ([] : List Addr) from hb) (by simp)), hok := hok, bare := .of_eq hg }
  refine codeAny_mono ((F _ kD (nsD hns) tb).go callerA [] s₁ H ⟨[.ref a], []⟩ [.ref a] [.ref a] _ _ rfl hr e0 (hbind s₁ (.ref a)) (.cons rfl .nil) (hsp H hH hS)) fun res s2 z => ?_
  rcases res with e | fl
  · obtain ⟨_, _, _, _, _, _, _, _, _, _, _, _, q⟩ := z
    exact q.elim
  · cases fl with
    | next => exact False.elim z
    | brk => exact False.elim z
    | cont => exact False.elim z
    | ret u =>
      obtain ⟨v, H', hos, bare, un, hok', ru, rfl⟩ := z
      cases ru
      have more : ∀ b ∈ tt, ∃ ps : Array Value, s2.heap.get? b = some { cls := .none, data := .fields ps } := fun b hb => by
        obtain ⟨ps, q⟩ := un.tbls b #[] (hs_tab hb)
        exact ⟨_, hok' b _ q⟩
      have old : ∀ b o, b ∉ tt → s₁.heap.get? b = some o → s2.heap.get? b = some o := fun b o nb e => by
        rcases hc b with q | ⟨hb, _⟩ | ⟨rfl, _, _, q⟩
        · exact un.keep b o e q (by intro z; cases z) (by intro z; cases z)
        · exact absurd hb nb
        · have q2 := hok' b _ (un.frzs b so _ q)
          cases e.symm.trans ha
          exact q2.1
      refine ⟨rfl, ⟨fun b o e => ?_, fun b o e => ?_⟩, hos, bare⟩
      · by_cases hb : b ∈ tt
        · obtain ⟨ps, q⟩ := more b hb
          obtain ⟨p, hp, rfl⟩ := List.mem_map.mp hb
          cases e.symm.trans (hT p hp)
          exact .inr (.inl ⟨((C p hp).tab (hT p hp)).isCodeTable, rfl, #[], ps, rfl, by rw [Array.empty_append]; exact q⟩)
        · exact .inl (old b o hb e)
      · by_cases hb : b ∈ tt
        · obtain ⟨ps, q⟩ := more b hb
          exact ⟨_, q⟩
        · exact ⟨o, old b o hb e⟩
/-- what is known of the law's def at the head's heap h -/
structure LawG (l : PySem.W.OpenLaw) (w : World) (K : PySem.W.Frag) (k n : Nat) (x : Str) (fa : Addr) (mg : Str → Option Value) (h : Heap) (fd : FuncData) (cs : List (Addr × Addr)) (sp : Sp) : Prop where
  empty : ∀ p ∈ cs, h.get? p.2 = some { cls := .none, data := .fields #[] }
  apart : ∀ p ∈ cs, K.lookup p.2 = none
  code : ∀ p ∈ cs, PySem.W.CodeHd h p.1 p.2
  bind : ∀ (s : Shared) (u : Value), BindsTo s fd ⟨[u], []⟩ [(x, u)]
  says : ∀ (H : Hp) (a : Addr) (ns : List Int), ns.length ≤ n → (∀ z ∈ ns, Builtin.Int.intBits z ≤ 1048576) → (∀ p ∈ cs, H p.2 = some (.tbl #[])) → SqL K H a (ns.map V.int) → sp [.ref a] H (fun v _ => v = .bl true) fun _ _ _ => False
  fn : ∀ base : Heap, K.In base → base.Ns mainGlobals mg → (∀ p ∈ cs, LamX.TabB base mg p.1 p.2) → FnG l.prog w K mg base (L2.CX l.prog w) k fa fd [x] sp
theorem walk_g {l : PySem.W.OpenLaw} {n k : Nat} {q : Program} {loose : List Str} {XP : (Str → Option Value) → Heap → Prop} {YP : World → Heap → Prop} {d : DefRec} {K : Params → PySem.W.Frag} {x : Str}
    (hn : l.most = some n) (hz : n ≤ sizeLine) (hdf : d.params.defaults = []) (hr : Room k callerA) (hY : ∀ (w : World) (h : Heap), YP w h → (K w.params).In h)
    (F : ∀ (w : World) (mg : Str → Option Value) (fa : Addr) (h : Heap), YP w h → (K w.params).In h → h.Ns mainGlobals mg → mg d.name = some (.ref fa) → ∃ fd cs sp, LawG l w (K w.params) k n x fa mg h fd cs sp) :
    PySem.W.WalkO q loose XP YP l.row.toRowW d [] (fun f vs => PySem.call f vs) := by
  refine Att.attach_callB hn hdf ?_
  intro w s₀ s₁ mg mb fa o pm cd doc a vs ns G Y ho hd hcd hmg hobj hints hlen hbits hg
  obtain ⟨fd, cs, sp, L⟩ := F w mg fa _ Y (hY w _ Y) G.T.g hmg
  exact law_g (hY w _ Y) G.T.g G.T.b G.T.builtins G.T.nolimit hg L.empty L.apart L.code G.T.bmain hobj hints (Nat.le_trans hlen hz) hr L.fn L.bind (fun H hH hS => L.says H a ns hlen hbits hH hS)
end M

namespace M
open PySem PySem.Spec PyProof.Rows L2
variable {X : Cx} {T : Tx} {W : WX} {a b c : Expr} {ma mb mc : ME} {mt mu : MT} {ms mv : MS} {pos : Pos} {st : Stmt} {rest sts : List Stmt}
variable {av av' : Av} {r r' r2 : List Addr} {H H' H2 : Hp} {m m' : Mem}

/-! ### repr of data, where no repr is under way -/
def rReprD (X : Cx) : List V → Hp → VK → Prop := fun xs H Q => ∃ x d, xs = [x] ∧ Dp X.K H x d ∧ d.showable = true ∧ d.hasDict = false ∧ d.depth ≤ 60 ∧ d.shown.length ≤ sizeLine ∧ Q (.str d.shown) H
theorem call_reprD (gd : X.A.guards = some []) (hu : X.A.units + 64 < cLine) : CallR X (.builtin "repr") (rReprD X) := by
  intro pins s σ H xs us Q I rv h
  obtain ⟨x, d, rfl, dp, hs, hd, hz, hl, q⟩ := h
  obtain ⟨u, rfl, ru⟩ := rv.one
  obtain ⟨as, rd⟩ := Dp.reads I d x u dp ru
  have big : ∀ (p : Addr), Reads s.heap (.ref p) d as → wpAny (model X.prog X.w) X.A (call (.builtin "repr") [.ref p]) (EP X pins σ Q) X.xe s := fun p rd =>
    PySem.repr_of_reads' rd hs (fun e => by rw [hd] at e; cases e) gd (by omega) (fun _ _ e => e) (fun h' t tk k => ⟨.str d.shown, H, I.kept k, ⟨_, rfl⟩, q⟩) hl
  cases dp with
  | non => cases ru; exact PySem.P.repr_of_none ⟨.str _, H, I.tok _, ⟨_, rfl⟩, q⟩
  | bl b => cases ru; exact PySem.P.repr_of_bool ⟨.str _, H, I.tok _, ⟨_, rfl⟩, q⟩
  | int i => obtain ⟨t, rfl⟩ := ru; exact PySem.P.repr_of_int (of_decide_eq_true hs) ⟨.str _, H, I.tok _, ⟨_, rfl⟩, q⟩
  | str z => obtain ⟨t, rfl⟩ := ru; exact PySem.P.repr_of_str ⟨.str _, H, I.tok _, ⟨_, rfl⟩, q⟩ hl
  | tup _ _ => cases ru; exact big _ rd
  | lst _ _ => cases ru; exact big _ rd
def fReprD : List PV → Mem → Option PV := fun xs m => match xs with
  | [x] => match datM m x with
    | some d => if d.showable && !d.hasDict && Nat.ble d.depth 60 && szOk d.shown.length then some (.str d.shown) else none
    | none => none
  | _ => none
theorem cm_reprD (hK : X.K = T.K) (gd : X.A.guards = some []) (hu : X.A.units + 64 < cLine) : ClM X T (.builtin "repr") fReprD := by
  refine ⟨_, call_reprD gd hu, fun {av r H m xs z vs Q} rm rv e k => ?_⟩
  unfold fReprD at e
  split at e
  · rename_i x
    split at e
    · rename_i d hd
      split at e
      · rename_i hc
        cases e
        simp only [Bool.and_eq_true, Bool.not_eq_true'] at hc
        obtain ⟨⟨⟨h1, h2⟩, h3⟩, h4⟩ := hc
        obtain ⟨v, rfl, hv⟩ := rvs1 rv
        exact ⟨v, d, rfl, datM_ok hK rm hv hd, h1, h2, Nat.le_of_ble_eq_true h3, szOk_le h4, k r H _ .refl rm rv_str⟩
      · cases e
    · cases e
  · cases e
end M

namespace M
open PySem PySem.Spec PyProof.Rows L2
variable {X : Cx} {T : Tx} {W : WX} {a b c : Expr} {ma mb mc : ME} {mt mu : MT} {ms mv : MS} {pos : Pos} {st : Stmt} {rest sts : List Stmt}
variable {av av' : Av} {r r' r2 : List Addr} {H H' H2 : Hp} {m m' : Mem} {tg iter : Expr}

/-! ### what the evaluator does not follow -/
def mNo : ME := fun _ _ => .bad
theorem pe_no {e : Expr} : PE X e (fun _ _ _ => False) := ⟨fun _ _ _ _ _ _ h => h.elim⟩
theorem se_bad {e : Expr} : SE X T W e mNo := ⟨PE.imp pe_no fun σ H Q ⟨av, r, e, m, re, rm, h⟩ => h⟩

/-! ### calls: one of two -/
def orC (f g : List PV → Mem → Option PV) : List PV → Mem → Option PV := fun xs m => match f xs m with
  | some z => some z
  | none => g xs m
theorem CallR.either {fv : Value} {r1 r2 : List V → Hp → VK → Prop} (h1 : CallR X fv r1) (h2 : CallR X fv r2) : CallR X fv (fun xs H Q => r1 xs H Q ∨ r2 xs H Q) := by
  intro pins s σ H xs us Q I rv h
  rcases h with h | h
  · exact h1 pins s σ H xs us Q I rv h
  · exact h2 pins s σ H xs us Q I rv h
theorem ClM.or {fv : Value} {f g : List PV → Mem → Option PV} (h : ClM X T fv f) (h' : ClM X T fv g) : ClM X T fv (orC f g) := by
  obtain ⟨r1, o1, k1⟩ := h
  obtain ⟨r2, o2, k2⟩ := h'
  refine ⟨_, M.CallR.either o1 o2, fun {av r H m xs z vs Q} rm rv e k => ?_⟩
  unfold orC at e
  split at e
  · rename_i z' hz
    exact .inl (k1 rm rv (hz.trans e) k)
  · exact .inr (k2 rm rv e k)

/-! ### len of an own instance -/
section
variable {C f : Addr} {fd : FuncData} {ps : List Str} {k : Nat} {sp : Sp}
theorem env0_in1 {P : Program} {w : World} {K : PySem.W.Frag} {mg : Str → Option Value} {base : Heap} {A : Around} {outer : List PySem.Env} {s : Shared} {H : Hp} (e : Env0 P w K mg base A outer s H) : Env0 P w K mg base A.in1 outer s H := ⟨e.frames, e.mod, e.bs, e.bsz, e.funs, e.frf, e.hok, e.bare⟩
theorem call_lenI (hf : Meth X.K C "__len__" f) (F : FnOk X.prog X.w X.K X.mg X.base (L2.CX X.prog X.w) k f fd ps sp) (hr : Room (k + 1) X.A) (hb : Binds X.K fd ps []) :
    CallR X (.builtin "len") (fun xs H Q => ∃ a dx fs, xs = [.ref a] ∧ H a = some (.ins C dx fs) ∧ sp [.ref a] H (fun v H' => ∃ n : Int, v = .int n ∧ 0 ≤ n ∧ n < 2 ^ 63 ∧ Q v H') (fun _ _ _ => False)) := by
  intro pins s σ H xs us Q I rv h
  obtain ⟨a, dx, fs, rfl, ha, h⟩ := h
  obtain ⟨u, rfl, ru⟩ := rv.one
  cases ru
  obtain ⟨mA, O, _, _, _, _⟩ := ins_get I.hok ha
  obtain ⟨od, J, _⟩ := O.look
  have hl : [V.ref a].length = ps.length := F.len _ _ _ _ h
  have hbt := hb s [.ref a] I.kIn (by rw [List.append_nil]; exact hl)
  rw [List.append_nil] at hbt
  refine Calls.call_function_entry kind_len plain_len entry_len (args_len1 _) ?_
  unfold Builtin.«len»
  refine wpAny_bind (m := oneArg "len" _) (wpAny_pure ?_)
  refine wpAny_bind (m := callSpecial? (.ref a) (Str.ofString "__len__")) (PySem.W.special_fn I.kIn J hf.at_ (beq_iff_eq.mp hf.fn) (wpAny_call (codeAny_mono (F.run X.A.in1 X.stack s H ⟨[.ref a], []⟩ [.ref a] [.ref a] _ _ hr.in1 (env0_in1 I.env0) hbt (.cons rfl .nil) h) fun res s' hq => ?_)))
  rcases res with e | fl
  · obtain ⟨_, _, _, _, _, _, _, _, _, _, _, _, q⟩ := hq
    exact q.elim
  · cases fl with
    | next => exact False.elim hq
    | brk => exact False.elim hq
    | cont => exact False.elim hq
    | ret u =>
      obtain ⟨v, H', J', rv', n, rfl, h0, h1, q⟩ := I.after hq
      obtain ⟨t, rfl⟩ := rv'
      refine wpAny_bind (wpAny_holding (wpAny_pure ?_))
      refine wpAny_bind (wpAny_letGo ?_)
      show wpAny _ _ (if n < 0 then _ else _) _ _ _
      rw [if_neg (by omega)]
      show wpAny _ _ (if n ≥ 2 ^ 63 then _ else _) _ _ _
      rw [if_neg (by omega)]
      exact wpAny_bind (wpAny_mkInt (wpAny_pure ⟨_, rfl, V.int n, H', J'.tok _, ⟨_, rfl⟩, q⟩))
end
section
variable {f : Addr} {fd : FuncData} {ps : List Str} {k cl : Nat} {mf : MF}
def cLenI (cl : Nat) (mf : MF) : List PV → Mem → Option PV := fun xs m => match xs with
  | [x] => if isIns cl x m then match runP 1 mf [x] m with
      | .ok (.int n) _ => if decide (0 ≤ n) && decide (n < 1000000) then some (.int n) else none
      | _ => none
    else none
  | _ => none
theorem runP_same {n : Nat} {xs : List PV} {v : PV} (h : runP n mf xs m = .ok v m') : m' = m := by
  unfold runP at h
  repeat' split at h
  all_goals cases h
  rfl
theorem cm_lenI (hn : ("__len__" : Str) ∉ T.cN cl) (hf : Meth X.K (T.cA cl) "__len__" f) (F : FnOk X.prog X.w X.K X.mg X.base (L2.CX X.prog X.w) k f fd ps (spM T 1 mf)) (hr : Room (k + 1) X.A) (hb : Binds X.K fd ps []) : ClM X T (.builtin "len") (cLenI cl mf) := by
  refine ⟨_, call_lenI hf F hr hb, fun {av r H m xs z vs Q} rm rv e q => ?_⟩
  unfold cLenI at e
  split at e
  · rename_i x
    split at e
    · rename_i hi
      split at e
      · rename_i n m' hrun
        split at e
        · rename_i hb
          cases e
          rw [Bool.and_eq_true, decide_eq_true_eq, decide_eq_true_eq] at hb
          obtain ⟨v, rfl, hv⟩ := rvs1 rv
          obtain ⟨p, dx, fs, rfl, hA, _⟩ := isIns_ok hn rm hv hi
          refine ⟨p, dx, fs, rfl, hA, sp_callP rm rv ?_⟩
          rw [hrun]
          have em := runP_same hrun
          subst em
          exact fun r1 H1 w g rm1 rv1 => ⟨n, rv1.int', hb.1, by omega, q r1 H1 w g rm1 rv1⟩
        · cases e
      · cases e
    · cases e
  · cases e
end

/-! ### more operations -/
def mUn (f : PV → Option PV) (ma : ME) : ME := fun e m => (ma e m).bind fun x m1 => oP (f x) m1
def fNeg : PV → Option PV
  | .int i => some (.int (-i))
  | _ => none
theorem se_neg (ha : SE X T W a ma) : SE X T W (.UnaryOp .USub a pos) (mUn fNeg ma) :=
  ⟨PE.imp (pe_un un_neg ha.pe) fun σ H Q ⟨av, r, e, m, re, rm, h⟩ =>
    ⟨av, r, e, m, re, rm, okR_imp (okR_bind h) fun x m1 h r1 H1 v g1 rm1 rv => by
      obtain ⟨z, hz, k⟩ := okR_oP h
      unfold fNeg at hz
      split at hz
      · rename_i i
        cases hz
        exact ⟨i, rv.int', k r1 H1 _ g1 rm1 rv_int⟩
      · cases hz⟩⟩
def bitsLe (i j : Int) (n : Nat) : Bool := Nat.ble (i.natAbs.log2 + j.natAbs.log2) n
def fMulW := fI (fun i j => bitsLe i j 900000) fun i j => .int (i * j)
theorem om_mulW : OpM X T (binaryOp .Mult) fMulW := opm_I op_mulW (fun i j h => Nat.lt_of_le_of_lt (Nat.le_of_ble_eq_true h) (by decide)) fun _ _ _ _ _ => rv_int
def fDivW := fI (fun _ j => decide (0 < j) && Nat.ble j.natAbs.log2 8000) fun i j => .int (i / j)
theorem om_divW : OpM X T (binaryOp .FloorDiv) fDivW := opm_I op_fdivW (fun i j h => by
  rw [Bool.and_eq_true, decide_eq_true_eq] at h
  exact ⟨h.1, Nat.lt_of_le_of_lt (Nat.le_of_ble_eq_true h.2) (by decide)⟩) fun _ _ _ _ _ => rv_int
def CPowX (i j : Int) : Prop := 0 ≤ j ∧ (Builtin.Int.intBits i : Int) * j ≤ 2 ^ 27
theorem op_powX : OpR X (binaryOp .Pow) (rI CPowX fun i j => .int (i ^ j.toNat)) := opI fun _ _ _ _ _ _ _ hc q => pow_int hc.1 hc.2 q
def fPowX := fI (fun i j => decide (0 ≤ j) && decide (((i.natAbs.log2 + 1 : Nat) : Int) * j ≤ 2 ^ 20)) fun i j => .int (i ^ j.toNat)
theorem bits_le (i : Int) : Builtin.Int.intBits i ≤ i.natAbs.log2 + 1 := by
  unfold Builtin.Int.intBits
  split <;> omega
theorem om_powX : OpM X T (binaryOp .Pow) fPowX := opm_I op_powX (fun i j h => by
  rw [Bool.and_eq_true, decide_eq_true_eq, decide_eq_true_eq] at h
  refine ⟨h.1, Int.le_trans (Int.mul_le_mul_of_nonneg_right (Int.ofNat_le.mpr (bits_le i)) h.1) (Int.le_trans h.2 (by decide))⟩) fun _ _ _ _ _ => rv_int
/-- tuples of ints, < -/
def fLtT : PV → PV → Mem → Option PV := fun x y _ => match x, y with
  | .tup xs, .tup ys => match intsOf xs, intsOf ys with
    | some ns, some ms => some (.bl (HT.lexLt ns ms))
    | _, _ => none
  | _, _ => none
theorem om_ltT (hK : X.K = T.K) (hu : X.A.units < cLine) : OpM X T (compareOp .Lt) fLtT := by
  refine ⟨_, op_ltT hu, fun {av r H m x y z v w Q} rm rv rw e k => ?_⟩
  unfold fLtT at e
  split at e
  · rename_i xs ys
    split at e
    · rename_i ns ms h1 h2
      cases e
      obtain ⟨p, vs, rfl, hp, hv⟩ := tup_ok hK rv
      obtain ⟨q, ws, rfl, hq, hw⟩ := tup_ok hK rw
      rw [intsOf_eq h1] at hv
      rw [intsOf_eq h2] at hw
      rw [rvs_ints hv] at hp
      rw [rvs_ints hw] at hq
      exact ⟨p, q, ns, ms, rfl, rfl, hp, hq, k r H _ .refl rm rv_bl⟩
    · cases e
  · cases e
end M

namespace M
open PySem PySem.Spec PyProof.Rows L2
variable {X : Cx} {T : Tx} {W : WX} {a b c : Expr} {ma mb mc : ME} {mt mu : MT} {ms mv : MS} {pos : Pos} {st : Stmt} {rest sts : List Stmt}
variable {av av' : Av} {r r' r2 : List Addr} {H H' H2 : Hp} {m m' : Mem} {tg iter : Expr}

/-! ### sorted, of a tuple, too -/
section
variable {prog : Program} {w : World} {A : Around} {E : Value → Shared → Prop} {s : Shared}
theorem collect_seq {l : Addr} {o : Obj} {vs : List Value} {n : Nat} {Q : List Value → Shared → Prop} (ho : s.heap.get? l = some o) (hc : o.cls = .type "tuple") (hd : o.data = .seq vs.toArray n)
    (hz : vs.length ≤ sizeLine) (h : Q vs { s with heap := (s.heap.push (seqObj "list" #[] 0)).update s.heap.objs.size (Obj.mapSeq (· ++ vs.toArray)) }) : wpAny (model prog w) A (collect (.ref l)) Q E s := by
  unfold collect
  refine wpAny_bind (wpAny_runValue (codeAny_builtin entry_proto_collect' ?_))
  show wpAny _ _ (do again (.builtin "list.__iadd__" ⟨[← newList [], .ref l], []⟩)) _ _ s
  refine wpAny_bind (wpAny_newList (wpAny_pure ⟨Code.quiet_builtin _ (by decide +kernel), codeAny_builtin entry_list_iadd' ?_⟩))
  have k : (s.heap.push (seqObj "list" #[] 0)).get? l = some o := Heap.get?_push_of_some _ ho
  show wpAny _ _ (Builtin.List.listExtendWith (.ref s.heap.objs.size) (.ref l) (.ref s.heap.objs.size)) _ _ { s with heap := s.heap.push (seqObj "list" #[] 0) }
  unfold Builtin.List.listExtendWith
  refine wpAny_bind (wpAny_typeOf (T := "tuple") ⟨o, k, hc⟩ ?_)
  have ht : (Value.type "tuple" == Value.type "tuple") = true := by rfl
  rw [if_pos (by rw [ht]; simp)]
  refine wpAny_bind (listItems_at k hd (wpAny_bind (listItems_at (xs := #[]) (n := 0) (Heap.get?_push_size _ rfl) rfl ?_)))
  rw [if_neg (by simp)]
  refine wpAny_bind (listUpdate_at (xs := #[]) (n := 0) (Heap.get?_push_size _ rfl) rfl (wpAny_pure ?_) (Nat.zero_le _) (by simp only [Array.size_append, List.size_toArray, List.length_nil]; omega))
  show wpAny (model prog w) A (do
      let o ← load s.heap.objs.size
      match o.data with
      | .seq xs _ => pure xs.toList
      | _ => unsupported "internal:collect") Q E { s with heap := (s.heap.push (seqObj "list" #[] 0)).update s.heap.objs.size (Obj.mapSeq (· ++ vs.toArray)) }
  refine wpAny_bind (wpAny_load (get?_update_seq (Heap.get?_push_size _ rfl) _) ?_)
  show wpAny _ _ (pure ((#[] : Array Value) ++ vs.toArray).toList) Q E _
  have e : ((#[] : Array Value) ++ vs.toArray).toList = vs := by simp
  rw [e]
  exact wpAny_pure h
theorem sorted_tup {l : Addr} {o : Obj} {vs : List Value} {n : Nat} {lt : Value → Value → Bool} {Q : Value → Shared → Prop} (O : SrtO.Swo lt) (ho : s.heap.get? l = some o) (hc : o.cls = .type "tuple") (hd : o.data = .seq vs.toArray n) (hz : vs.length ≤ sizeLine)
    (hS : 2 ≤ vs.length → ∀ (h1 : Heap) (a : Addr), SrtO.SortableO prog w A.in1.in1 { s with heap := h1 } a vs lt)
    (h : ∀ out : List Value, SrtO.Srtd lt out → SrtO.Stb lt out vs → Q (.ref (s.heap.objs.size + 1)) { s with heap := sortedAll s.heap vs out.toArray }) : wpAny (model prog w) A (call (.builtin "sorted") [.ref l]) Q E s := by
  refine Calls.call_function_entry kind_sorted plain_sorted entry_sorted (args_sorted1 _) ?_
  unfold Builtin.«sorted»
  refine wpAny_bind (m := checkCount "sorted" 1 1 _) (wpAny_pure (wpAny_bind (collect_seq ho hc hd hz (wpAny_bind (wpAny_newList ?_ hz)))))
  have hsz : ((s.heap.push (seqObj "list" #[] 0)).update s.heap.objs.size (Obj.mapSeq (· ++ vs.toArray))).objs.size = s.heap.objs.size + 1 := (Heap.size_update _ _ _).trans (size_push' _ _)
  have hoL : (((s.heap.push (seqObj "list" #[] 0)).update s.heap.objs.size (Obj.mapSeq (· ++ vs.toArray))).push (seqObj "list" vs.toArray 0)).get? (s.heap.objs.size + 1) = some (seqObj "list" vs.toArray 0) := by
    rw [← hsz]
    exact Heap.get?_push_size _ rfl
  show wpAny _ _ _ _ _ { s with heap := ((s.heap.push (seqObj "list" #[] 0)).update s.heap.objs.size (Obj.mapSeq (· ++ vs.toArray))).push (seqObj "list" vs.toArray 0) }
  rw [hsz]
  exact wpAny_bind (wpAny_holding (wpAny_call_entry slot_list_sort ⟨_, hoL, rfl⟩ entry_list_sort (SrtO.list_sort_ord O hoL hz (fun h2 => hS h2 _ _) fun out hs hb => ⟨_, rfl, wpAny_pure ⟨_, rfl, h out hs hb⟩⟩) (args_list_sort _)))
end
theorem cr_sortedTI : CallR X (.builtin "sorted") (fun vs H Q => ∃ (a : Addr) (ns : List Int), vs = [V.ref a] ∧ SqT X.K H a (ns.map V.int) ∧ ∀ (ks : List Int) (p : Addr), ks.Perm ns → ks.Pairwise (· ≤ ·) → H p = none → Q (.ref p) (upd H p (.lst (ks.map V.int)))) := by
  intro pins s σ H vs us Q I rv h
  obtain ⟨a, ns, rfl, hs, q⟩ := h
  obtain ⟨its, ri, hl, hz⟩ := I.tuple hs
  obtain ⟨u, rfl, ru⟩ := rv.one
  cases ru
  have hi := ri.ints
  obtain ⟨o, ho, hc, n, hd⟩ := hl
  have hz2 : its.length ≤ sizeLine := by rw [← ri.length]; exact hz
  refine sorted_tup SrtO.swo_int ho hc hd hz2 (fun h2 h1 a' => SrtO.ints_sortable hi h2) fun out h1 h2 => ?_
  obtain ⟨k1, k2, k3⟩ := SrtO.ints_out hi h1 h2
  obtain ⟨ep, he⟩ := sortedAll_at s.heap its out.toArray
  have hn : ((out.map SrtO.iv).map V.int).length ≤ sizeLine := by
    rw [List.length_map, k2.length_eq, ← List.length_map (f := V.int)]
    exact hz
  exact ⟨.ref _, upd H (s.heap.objs.size + 1) (.lst ((out.map SrtO.iv).map V.int)), I.laid (t' := s.toks) (fun _ _ => sortedAll_old) (Nat.le_succ _) ⟨hn, out, ep, vals_of_ints k1, he⟩, rfl, q _ _ k2 k3 (I.hok.fresh (Nat.le_succ _))⟩
/-! ### sorted ints, as a function -/
def insI (x : Int) : List Int → List Int
  | [] => [x]
  | y :: ys => if x ≤ y then x :: y :: ys else y :: insI x ys
def sortI : List Int → List Int
  | [] => []
  | x :: xs => insI x (sortI xs)
theorem insI_perm (x : Int) : ∀ ys : List Int, (insI x ys).Perm (x :: ys)
  | [] => .refl _
  | y :: ys => by
    unfold insI
    split
    · exact .refl _
    · exact ((insI_perm x ys).cons y).trans (.swap x y ys)
theorem sortI_perm : ∀ xs : List Int, (sortI xs).Perm xs
  | [] => .refl _
  | x :: xs => (insI_perm x _).trans ((sortI_perm xs).cons x)
theorem insI_up (x : Int) : ∀ {ys : List Int}, ys.Pairwise (· ≤ ·) → (insI x ys).Pairwise (· ≤ ·)
  | [], _ => by simp [insI]
  | y :: ys, h => by
    rw [List.pairwise_cons] at h
    unfold insI
    split
    · rename_i hx
      refine List.pairwise_cons.mpr ⟨fun z hz => ?_, List.pairwise_cons.mpr h⟩
      rcases List.mem_cons.mp hz with e | hz
      · rw [e]; exact hx
      · exact Int.le_trans hx (h.1 z hz)
    · rename_i hx
      refine List.pairwise_cons.mpr ⟨fun z hz => ?_, insI_up x h.2⟩
      rcases List.mem_cons.mp ((insI_perm x ys).mem_iff.mp hz) with e | hz
      · rw [e]; omega
      · exact h.1 z hz
theorem sortI_up : ∀ xs : List Int, (sortI xs).Pairwise (· ≤ ·)
  | [] => .nil
  | x :: xs => insI_up x (sortI_up xs)
theorem up_unique : ∀ {xs ys : List Int}, xs.Perm ys → xs.Pairwise (· ≤ ·) → ys.Pairwise (· ≤ ·) → xs = ys
  | [], ys, h, _, _ => (List.nil_perm.mp h).symm
  | x :: xs, [], h, _, _ => (List.perm_nil.mp h)
  | x :: xs, y :: ys, h, hx, hy => by
    rw [List.pairwise_cons] at hx hy
    have e : x = y := by
      rcases List.mem_cons.mp (h.mem_iff.mp List.mem_cons_self) with e | m
      · exact e
      · rcases List.mem_cons.mp (h.mem_iff.mpr List.mem_cons_self) with e | m2
        · exact e.symm
        · exact Int.le_antisymm (hx.1 y m2) (hy.1 x m)
    subst e
    rw [up_unique (List.Perm.cons_inv h) hx.2 hy.2]
theorem sortI_of {xs ys : List Int} (h : ys.Perm xs) (u : ys.Pairwise (· ≤ ·)) : ys = sortI xs := up_unique (h.trans (sortI_perm xs).symm) u (sortI_up xs)
def itsOf (x : PV) (m : Mem) : Option (List PV) := match x with
  | .tup xs => some xs
  | _ => none
def cSortI : List PV → Mem → Option (List PV) := fun xs m => match xs with
  | [.tup ys] => match intsOf ys with
    | some ns => some ((sortI ns).map PV.int)
    | none => none
  | [x] => match lstOf x m with
    | some ys => match intsOf ys with
      | some ns => some ((sortI ns).map PV.int)
      | none => none
    | none => none
  | _ => none
theorem rvs_intsB : ∀ ns : List Int, RVs T av r H (ns.map PV.int) (ns.map V.int)
  | [] => by show RVs T av r H [] []; unfold RVs; rfl
  | n :: ns => by
    show RVs T av r H (PV.int n :: ns.map PV.int) (V.int n :: ns.map V.int)
    unfold RVs
    exact ⟨_, _, rfl, rv_int, rvs_intsB ns⟩
theorem cf_sortI (hK : X.K = T.K) : ClF X T (.builtin "sorted") cSortI := by
  refine ⟨_, M.CallR.either cr_sortedI cr_sortedTI, fun {av r H m xs z vs Q} rm rv e k => ?_⟩
  unfold cSortI at e
  split at e
  · rename_i ys
    split at e
    · rename_i ns hn
      cases e
      obtain ⟨v, rfl, hv⟩ := rvs1 rv
      obtain ⟨p, ws, rfl, hp, hw⟩ := tup_ok hK hv
      rw [intsOf_eq hn] at hw
      rw [rvs_ints hw] at hp
      refine .inr ⟨p, ns, rfl, hp, fun ks q hperm hup hq => ?_⟩
      rw [sortI_of hperm hup]
      exact kf_new rm hq (rvs_intsB _) k
    · cases e
  · rename_i x hx
    split at e
    · rename_i ys hy
      split at e
      · rename_i ns hn
        cases e
        obtain ⟨v, rfl, hv⟩ := rvs1 rv
        obtain ⟨p, ws, rfl, hp, hw⟩ := lstOf_ok rm hv hy
        rw [intsOf_eq hn] at hw
        rw [rvs_ints hw] at hp
        refine .inl ⟨p, ns, rfl, .inl hp, fun ks q hperm hup hq => ?_⟩
        rw [sortI_of hperm hup]
        exact kf_new rm hq (rvs_intsB _) k
      · cases e
    · cases e
  · cases e
end M

namespace M
open PySem PySem.Spec PyProof.Rows L2
variable {X : Cx} {T : Tx} {W : WX} {a b c : Expr} {ma mb mc : ME} {mt mu : MT} {ms mv : MS} {pos : Pos} {st : Stmt} {rest sts : List Stmt}
variable {av av' : Av} {r r' r2 : List Addr} {H H' H2 : Hp} {m m' : Mem} {tg iter : Expr}

/-! ### comprehensions with two fors -/
theorem keepD {D : Addr} {vs : List V} (g : Grow r H r' H') (hl : H D = some (.lst vs)) (n : D ∉ r) : D ∉ r' ∧ H' D = some (.lst vs) := by
  obtain ⟨more, em, fm⟩ := g.ext
  refine ⟨fun hm => ?_, g.keep D _ hl n (fun ps z => by cases z)⟩
  rw [em] at hm
  rcases List.mem_append.mp hm with q | q
  · exact n q
  · exact fm D q ⟨_, hl, trivial⟩
/-- the inner walk: acc, from behind -/
def inL (mg : MG) (t : MT) (me : ME) (ew : Env) (it : MI) : Nat → Nat → List PV → Mem → Res (List PV)
  | 0, _, _, _ => .bad
  | n + 1, i, acc, m => match it m i with
    | none => .bad
    | some none => .ok acc m
    | some (some x) => (mg x ew m).calm.bind fun e1 m1 => (t e1 m1).calm.bind fun b m2 =>
      if b then (me e1 m2).calm.bind fun v m3 => if szOk acc.length then inL mg t me ew it n (i + 1) (v :: acc) m3 else .bad
      else inL mg t me ew it n (i + 1) acc m2
def outL (mg : MG) (t : MT) (mi1 : Env → Mem → Res MI) (mg1 : MG) (t1 : MT) (me : ME) (vs1 : List Nat) (ew : Env) (it : MI) : Nat → Nat → List PV → Mem → Res (List PV)
  | 0, _, _, _ => .bad
  | n + 1, i, acc, m => match it m i with
    | none => .bad
    | some none => .ok acc.reverse m
    | some (some x) => (mg x ew m).calm.bind fun e1 m1 => (t e1 m1).calm.bind fun b m2 =>
      if b then (mi1 e1 m2).calm.bind fun it1 m3 => (inL mg1 t1 me (wipeE e1 vs1) it1 FUEL 0 acc m3).calm.bind fun acc' m4 => outL mg t mi1 mg1 t1 me vs1 ew it n (i + 1) acc' m4
      else outL mg t mi1 mg1 t1 me vs1 ew it n (i + 1) acc m2
def mLc2 (mi : Env → Mem → Res MI) (mg : MG) (t : MT) (mi1 : Env → Mem → Res MI) (mg1 : MG) (t1 : MT) (me : ME) (vs vs1 : List Nat) : MA := fun e m => (mi e m).bind fun it m1 => outL mg t mi1 mg1 t1 me vs1 (wipeE e vs) it FUEL 0 [] m1
theorem grow_rwA {D : Addr} {o : HO} (g : GrowA (Avp av D) r H r' H') (ho : nTbl o := by trivial) : GrowA (Avp av D) r H r' (upd H' D o) :=
  ⟨g.ext, fun b u e na n t => by rw [upd_ne (fun z => na (.inr z))]; exact g.keep b u e na n t, fun b e => by
    obtain ⟨u, q, t⟩ := g.there b e
    by_cases z : b = D
    · subst z; exact ⟨o, upd_same, ho⟩
    · exact ⟨u, by rw [upd_ne z]; exact q, t⟩⟩
theorem lc2_read {ts ts1 vs0 vs1 : List Nat} {mi mi1 : Env → Mem → Res MI} {mg mg1 : MG} (hts : ts.all (fun j => vs0.contains j) = true) (hts1 : ts1.all (fun j => vs1.contains j) = true) {σ : L2.St} {H : Hp} {Q : VK} (h : tF T W (mLc2 mi mg mt mi1 mg1 mu ma vs0 vs1) σ H Q) :
    tLc2 (tI T W mi) (tG T ts mg) (tT T (fun _ _ _ _ => False) mt) (tI T (fun _ _ _ _ => False) mi1) (tG T ts1 mg1) (tT T (fun _ _ _ _ => False) mu) (tE T (fun _ _ _ _ => False) ma) vs0 vs1 σ H Q := by
  obtain ⟨av, r, e, m, re, rm, h⟩ := h
  refine ⟨av, r, e, m, re, rm, okR_imp (okR_bind h) fun it m1 h r1 H1 J g1 rm1 iok D hD => ?_⟩
  have hwd : ∀ a, Avp av D a → av a ∨ ¬ Hard H1 a := fun a z => z.elim .inl fun z => .inr (by rw [z]; exact soft hD)
  have nHD : ¬ Hard H D := g1.none (soft hD)
  let okQ : Res (List PV) → Prop := okR T av r H (fun c d H' => W c d σ H') (KF T av r H Q)
  let Wo : Nat → Nat → Hp → Prop := fun i n H2 => ∃ r2 m2 acc vs, Grow r1 H1 r2 H2 ∧ D ∉ r2 ∧ H2 D = some (.lst vs) ∧ RM T (Avp av D) r2 H2 m2 ∧ RVs T (Avp av D) r2 H2 acc.reverse vs ∧ okQ (outL mg mt mi1 mg1 mu ma vs1 (wipeE e vs0) it n i acc m2)
  refine ⟨Wo, ⟨FUEL, r1, m1, [], [], grow_upd hD, rm1.fresh hD, upd_same, rm1.away hD, by show RVs T _ _ _ [] []; unfold RVs; rfl, h⟩, fun i n H2 hW => ?_⟩
  obtain ⟨r2, m2, acc, vs, g2, nD, hl, rm2, rvs, h2⟩ := hW
  cases n with
  | zero => exact h2.elim
  | succ n =>
    have hio := iok (Avp av D) r2 H2 m2 i hwd g2.toA rm2
    replace h2 : okQ (match it m2 i with
      | none => .bad
      | some none => .ok acc.reverse m2
      | some (some x) => (mg x (wipeE e vs0) m2).calm.bind fun e1 m1 => (mt e1 m1).calm.bind fun b m2 =>
        if b then (mi1 e1 m2).calm.bind fun it1 m3 => (inL mg1 mu ma (wipeE e1 vs1) it1 FUEL 0 acc m3).calm.bind fun acc' m4 => outL mg mt mi1 mg1 mu ma vs1 (wipeE e vs0) it n (i + 1) acc' m4
        else outL mg mt mi1 mg1 mu ma vs1 (wipeE e vs0) it n (i + 1) acc m2) := h2
    split at h2
    · exact h2.elim
    · rename_i hit
      rw [hit] at hio
      exact .inl ⟨hio, h2 r2 H2 D vs (g1.trans g2) nHD nD hl rm2 rvs⟩
    · rename_i x hit
      rw [hit] at hio
      let Nx : Hp → Prop := fun H' => ∃ n', n' < n + 1 ∧ Wo (i + 1) n' H'
      refine .inr ⟨hio.1, Nx, fun H' h => h, fun v H3 y => ?_⟩
      obtain ⟨r3, g3, rm3, rv3⟩ := hio.2 v H3 y
      have reW : RE T (Avp av D) r3 H3 (wipeE e vs0) (wipe σ vs0) := (RE.map (fun x v q => ((q.grow g1).widen hwd).grow (g2.trans g3)) re).wipe _
      refine ⟨Avp av D, r3, _, m2, x, reW, rm3, rv3, okR_imp (okR_calm h2) fun e4 m4 h r4 H4 σ4 g4 rm4 re4 ag4 => ⟨?_, ?_⟩⟩
      · exact wipe_agree (ag4.mono fun j hj => by
          have q := List.all_eq_true.mp hts j hj
          rwa [List.contains_iff_mem] at q)
      · refine ⟨Avp av D, r4, e4, m4, re4, rm4, okR_imp (okR_calm h) fun b m5 h r5 H5 g5 rm5 => ?_⟩
        have g25 := (g3.trans g4).trans g5
        obtain ⟨n5, hl5⟩ := keepD g25 hl nD
        have re5 := re4.grow g5
        cases b with
        | false => exact iteF ⟨n, Nat.lt_succ_self n, r5, m5, acc, vs, g2.trans g25, n5, hl5, rm5, rvs.grow g25, h⟩
        | true =>
          refine iteT ⟨Avp av D, r5, e4, m5, re5, rm5, okR_imp (okR_calm h) fun it1 m6 h r6 H6 J1 g6 rm6 iok1 => ?_⟩
          obtain ⟨n6, hl6⟩ := keepD g6 hl5 n5
          have g26 := g25.trans g6
          let Wi : Nat → Nat → Hp → Prop := fun j k H7 => ∃ r7 m7 acc7 vs7, GrowA (Avp av D) r6 H6 r7 H7 ∧ Grow r1 H1 r7 H7 ∧ D ∉ r7 ∧ H7 D = some (.lst vs7) ∧ RM T (Avp av D) r7 H7 m7 ∧ RVs T (Avp av D) r7 H7 acc7.reverse vs7 ∧
            okR T av r H (fun _ _ _ => False) (fun acc' m4 => okQ (outL mg mt mi1 mg1 mu ma vs1 (wipeE e vs0) it n (i + 1) acc' m4)) (inL mg1 mu ma (wipeE e4 vs1) it1 k j acc7 m7)
          refine ⟨Wi, ⟨FUEL, r6, m6, acc, vs, Grow.refl.toA, g2.trans g26, n6, hl6, rm6, rvs.grow g26, okR_calm h⟩, fun j k H7 hW => ?_⟩
          obtain ⟨r7, m7, acc7, vs7, g7, G7, n7, hl7, rm7, rvs7, h7⟩ := hW
          cases k with
          | zero => exact h7.elim
          | succ k =>
            have hio7 := iok1 (Avp av D) r7 H7 m7 j (fun _ z => .inl z) g7 rm7
            unfold inL at h7
            split at h7
            · exact h7.elim
            · rename_i hit7
              rw [hit7] at hio7
              exact .inl ⟨hio7, n, Nat.lt_succ_self n, r7, m7, acc7, vs7, G7, n7, hl7, rm7, rvs7, h7⟩
            · rename_i x7 hit7
              rw [hit7] at hio7
              refine .inr ⟨hio7.1, fun H' => ∃ k', k' < k + 1 ∧ Wi (j + 1) k' H', fun H' h => h, fun v8 H8 y8 => ?_⟩
              obtain ⟨r8, g8, rm8, rv8⟩ := hio7.2 v8 H8 y8
              have re8 : RE T (Avp av D) r8 H8 (wipeE e4 vs1) (wipe σ4 vs1) := (RE.map (fun x v q => ((q.grow g6).growA g7).grow g8) re5).wipe _
              refine ⟨Avp av D, r8, _, m7, x7, re8, rm8, rv8, okR_imp (okR_calm (f := fun e1 m1 => (mu e1 m1).calm.bind fun b m2 =>
                if b then (ma e1 m2).calm.bind fun v m3 => if szOk acc7.length then inL mg1 mu ma (wipeE e4 vs1) it1 k (j + 1) (v :: acc7) m3 else .bad
                else inL mg1 mu ma (wipeE e4 vs1) it1 k (j + 1) acc7 m2) h7) fun e9 m9 h r9 H9 σ9 g9 rm9 re9 ag9 => ⟨?_, ?_⟩⟩
              · exact wipe_agree (ag9.mono fun j hj => by
                  have q := List.all_eq_true.mp hts1 j hj
                  rwa [List.contains_iff_mem] at q)
              · refine ⟨Avp av D, r9, e9, m9, re9, rm9, okR_imp (okR_calm h) fun b m10 h r10 H10 g10 rm10 => ?_⟩
                have g7a := (g8.trans g9).trans g10
                obtain ⟨n10, hl10⟩ := keepD g7a hl7 n7
                cases b with
                | false => exact iteF ⟨k, Nat.lt_succ_self k, r10, m10, acc7, vs7, g7.trans g7a, G7.trans g7a, n10, hl10, rm10, rvs7.grow g7a, h⟩
                | true =>
                  refine iteT ⟨Avp av D, r10, e9, m10, re9.grow g10, rm10, okR_imp (okR_calm h) fun z m11 h r11 H11 w11 g11 rm11 rw11 => ?_⟩
                  have g7b := g7a.trans g11
                  obtain ⟨n11, hl11⟩ := keepD g7b hl7 n7
                  split at h
                  · rename_i hz
                    refine ⟨vs7, hl11, by rw [rvs7.length, List.length_reverse]; exact szOk_lt hz, k, Nat.lt_succ_self k, r11, m11, z :: acc7, vs7 ++ [w11], grow_rwA (g7.trans g7b), grow_rw (soft hD) (G7.trans g7b), n11, upd_same, rm11.rewrite n11 (by rw [hl11]; trivial), (RVs.rev1 (rvs7.grow g7b) rw11).rewrite, h⟩
                  · exact h.elim
section
variable {iter1 tg1 : Expr} {ifs ifs1 : List Expr} {scope : Scope} {own : List (Str × Nat)} {ts ts1 vs1 : List Nat} {mi mi1 : Env → Mem → Res MI} {mg mg1 : MG}
theorem sf_lc2 (hc : X.calm = true) (hN : X.N.Nodup) (hi : SI X T W tg iter mi) (ok : blkC X.N X.env.scope scope own = true) (hv : vs1.all (fun j => (own.map (·.2)).contains j) = true)
    (hg : ∀ (s : Shared) (H : Hp) (C : Addr) (cl : List (Str × Addr)) (fp : List Addr), SG (X.blk s H scope (compEnvC scope cl C X.env) fp) T ts tg mg)
    (ht : ∀ (s : Shared) (H : Hp) (C : Addr) (cl : List (Str × Addr)) (fp : List Addr), STs (X.blk s H scope (compEnvC scope cl C X.env) fp) T (fun _ _ _ _ => False) ifs mt)
    (hi1 : ∀ (s : Shared) (H : Hp) (C : Addr) (cl : List (Str × Addr)) (fp : List Addr), SI (X.blk s H scope (compEnvC scope cl C X.env) fp) T (fun _ _ _ _ => False) tg1 iter1 mi1)
    (hg1 : ∀ (s : Shared) (H : Hp) (C : Addr) (cl : List (Str × Addr)) (fp : List Addr), SG (X.blk s H scope (compEnvC scope cl C X.env) fp) T ts1 tg1 mg1)
    (ht1 : ∀ (s : Shared) (H : Hp) (C : Addr) (cl : List (Str × Addr)) (fp : List Addr), STs (X.blk s H scope (compEnvC scope cl C X.env) fp) T (fun _ _ _ _ => False) ifs1 mu)
    (he : ∀ (s : Shared) (H : Hp) (C : Addr) (cl : List (Str × Addr)) (fp : List Addr), SE (X.blk s H scope (compEnvC scope cl C X.env) fp) T (fun _ _ _ _ => False) a ma)
    (hts : ts.all (fun j => (own.map (·.2)).contains j) = true) (hts1 : ts1.all (fun j => vs1.contains j) = true) (hs : ∀ x, foldedSetIterable iter X.env x = pure x := by intro _; rfl) (hs1 : ∀ env x, foldedSetIterable iter1 env x = pure x := by intro _ _; rfl) :
    SF X T W (.ListComp a [⟨tg, iter, ifs, 0⟩, ⟨tg1, iter1, ifs1, 0⟩] scope pos) (mLc2 mi mg mt mi1 mg1 mu ma (own.map (·.2)) vs1) :=
  ⟨PE.imp (pe_lc2 hc hN hi.pi (blkOk_by ok) (fun i hi => by
      have q := List.all_eq_true.mp hv i hi
      rwa [List.contains_iff_mem] at q) (fun s H C cl fp => (hg s H C cl fp).pg) (fun s H C cl fp => (ht s H C cl fp).pts) (fun s H C cl fp => (hi1 s H C cl fp).pi) (fun s H C cl fp => (hg1 s H C cl fp).pg) (fun s H C cl fp => (ht1 s H C cl fp).pts) (fun s H C cl fp => (he s H C cl fp).pe) hs hs1) fun σ H Q h => lc2_read hts hts1 h⟩
theorem lc2_stmt {i : Nat} {y : Str} {py spos : Pos} {ms : MS} (hset : ∀ {D : Ends} {σ : L2.St} {H : Hp}, tS T W ms D σ H → tF T W (mLc2 mi mg mt mi1 mg1 mu ma (own.map (·.2)) vs1) σ H (fun x H1 => D.nx (σ.set i (some x)) H1))
    (hc : X.calm = true) (hN : X.N.Nodup) (hy : X.N[i]? = some y) (hyl : X.env.scope.names.lookup y = some .local) (hsw : swapsWith (.ListComp a [⟨tg, iter, ifs, 0⟩, ⟨tg1, iter1, ifs1, 0⟩] scope pos) (some (.Name y py)) spos.line X.env = pure true)
    (hi : SI X T W tg iter mi) (ok : blkC X.N X.env.scope scope own = true) (hv : vs1.all (fun j => (own.map (·.2)).contains j) = true)
    (hg : ∀ (s : Shared) (H : Hp) (C : Addr) (cl : List (Str × Addr)) (fp : List Addr), SG (X.blk s H scope (compEnvC scope cl C X.env) fp) T ts tg mg)
    (ht : ∀ (s : Shared) (H : Hp) (C : Addr) (cl : List (Str × Addr)) (fp : List Addr), STs (X.blk s H scope (compEnvC scope cl C X.env) fp) T (fun _ _ _ _ => False) ifs mt)
    (hi1 : ∀ (s : Shared) (H : Hp) (C : Addr) (cl : List (Str × Addr)) (fp : List Addr), SI (X.blk s H scope (compEnvC scope cl C X.env) fp) T (fun _ _ _ _ => False) tg1 iter1 mi1)
    (hg1 : ∀ (s : Shared) (H : Hp) (C : Addr) (cl : List (Str × Addr)) (fp : List Addr), SG (X.blk s H scope (compEnvC scope cl C X.env) fp) T ts1 tg1 mg1)
    (ht1 : ∀ (s : Shared) (H : Hp) (C : Addr) (cl : List (Str × Addr)) (fp : List Addr), STs (X.blk s H scope (compEnvC scope cl C X.env) fp) T (fun _ _ _ _ => False) ifs1 mu)
    (he : ∀ (s : Shared) (H : Hp) (C : Addr) (cl : List (Str × Addr)) (fp : List Addr), SE (X.blk s H scope (compEnvC scope cl C X.env) fp) T (fun _ _ _ _ => False) a ma)
    (hts : ts.all (fun j => (own.map (·.2)).contains j) = true) (hts1 : ts1.all (fun j => vs1.contains j) = true) (hs : ∀ x, foldedSetIterable iter X.env x = pure x := by intro _; rfl) (hs1 : ∀ env x, foldedSetIterable iter1 env x = pure x := by intro _ _; rfl) :
    SS X T W (.Assign [.Name y py] (.ListComp a [⟨tg, iter, ifs, 0⟩, ⟨tg1, iter1, ifs1, 0⟩] scope pos) spos) ms :=
  ⟨PS.imp (ps_setLc2 hc hN hy hyl hsw hi.pi (blkOk_by ok) (fun i hi => by
      have q := List.all_eq_true.mp hv i hi
      rwa [List.contains_iff_mem] at q) (fun s H C cl fp => (hg s H C cl fp).pg) (fun s H C cl fp => (ht s H C cl fp).pts) (fun s H C cl fp => (hi1 s H C cl fp).pi) (fun s H C cl fp => (hg1 s H C cl fp).pg) (fun s H C cl fp => (ht1 s H C cl fp).pts) (fun s H C cl fp => (he s H C cl fp).pe) hs hs1) fun D σ H h => lc2_read hts hts1 (hset h)⟩
end

/-! ### enumerate -/
def enI (xs : List PV) : MI := fun _ i => some (match xs[i]? with
  | some x => some (.tup [.int i, x])
  | none => none)
/-- of a tuple or a list that doesn't change -/
def mIE (mr : MA) : Env → Mem → Res MI := fun e m => (mr e m).bind fun vs m1 => match vs with
  | [.lst xs] => .ok (enI xs) m1
  | _ => .bad
theorem iok_enum {xs : List PV} {v : V} (h : RV T av r H (.lst xs) v) : ∃ a vs, v = .ref a ∧ SqL X.K H a vs ∧ IOk T av r H (enI xs) (Ite X.K a) := by
  have h0 := h
  unfold RV at h
  obtain ⟨a, vs, rfl, o, ha, hv⟩ := h
  refine ⟨a, vs, rfl, .inl ha, fun av' r' H' m' i hw g rm => ?_⟩
  have h1 := (h0.widen hw).growA g
  unfold RV at h1
  obtain ⟨a', vs', e, o', ha', hv'⟩ := h1
  cases e
  unfold enI
  cases q : xs[i]? with
  | none => exact ⟨vs', .inl ha', by rw [hv'.length]; exact List.getElem?_eq_none_iff.mp q⟩
  | some x =>
    obtain ⟨w, hw', rw'⟩ := hv'.get q
    refine ⟨⟨vs', w, .inl ha', hw'⟩, fun v H2 y => ?_⟩
    obtain ⟨p, z, rfl, hp, rfl, hz⟩ := y
    have e : z = w := Option.some.inj ((hz vs' (.inl ha')).symm.trans hw')
    subst e
    refine ⟨r', grow_upd hp, (rm.pass hp), rv_newT rm hp ?_⟩
    unfold RVs
    exact ⟨_, _, rfl, rv_int, by unfold RVs; exact ⟨_, [], rfl, rw', by unfold RVs; rfl⟩⟩
theorem si_enum {mr : MA} {elts : List Expr} {kk : Nat} {p tpos : Pos} (hg : Gl X "enumerate") (hm : X.mg "enumerate" = none) (ha : SA X T W [a] mr) (hs : starEach [a] X.env = [(false, eval a X.env)] := by rfl) : SI X T W (.Tuple elts kk tpos) (.Call (.Name "enumerate" p) [a] [] pos) (mIE mr) :=
  ⟨PI.imp (pi_enum hg hm ha.pa hs) fun σ H R ⟨av, r, e, m, re, rm, h⟩ => ⟨av, r, e, m, re, rm, okR_imp (okR_bind h) fun vs m1 h r1 H1 ws g1 rm1 rv => by
    split at h
    · obtain ⟨v, rfl, hv⟩ := rvs1 rv
      obtain ⟨p, us, rfl, hp, iok⟩ := iok_enum (X := X) hv
      exact ⟨p, us, rfl, hp, h r1 H1 _ g1 rm1 iok⟩
    · exact h.elim⟩⟩

/-! ### lists, tuples by whole numbers -/
theorem RVs.rep {xs : List PV} {vs : List V} (h : RVs T av r H xs vs) : ∀ n : Nat, RVs T av r H (List.replicate n xs).flatten (List.replicate n vs).flatten
  | 0 => by show RVs T av r H [] []; unfold RVs; rfl
  | n + 1 => by
    rw [List.replicate_succ, List.replicate_succ, List.flatten_cons, List.flatten_cons]
    exact h.append (RVs.rep h n)
theorem RX.near {p : Addr} {c : Nat} {ws : List PV} {cls : Value} {d : Option Addr} (h : RX T (Avp av p) r H c ws cls d) : RX T av r H c ws cls d :=
  ⟨h.1, h.2.imp id fun ⟨dx, fs, e1, o, e2, e3, e4⟩ => ⟨dx, fs, e1, ⟨fun z => o.1 (.inl z), o.2⟩, e2, e3, e4.near⟩⟩
theorem okR_near {Wr : Value → Option Addr → Hp → Prop} {s : Type} {K : s → Mem → Prop} {p : Addr} : ∀ {x : Res s}, okR T av r H Wr K x → okR T (Avp av p) r H Wr K x
  | .ok _ _, h => h
  | .exc _ _ _, h => fun r2 H2 c d g rm rx => h r2 H2 c d g rm.near (M.RX.near rx)
  | .bad, h => h
def mRepF (ma : MA) (mb : ME) : MA := fun e m => (ma e m).bind fun xs m1 => (mb e m1).bind fun y m2 => match y with
  | .int k => if big62 k && szOk (xs.length * k.toNat) then .ok (List.replicate k.toNat xs).flatten m2 else .bad
  | _ => .bad
theorem sf_rep {ma : MA} (ha : SF X T W a ma) (hb : SE X T W b mb) : SF X T W (.BinOp a .Mult b pos) (mRepF ma mb) :=
  ⟨PE.imp (pe_op op_rep ha.pe hb.pe) fun σ H Q ⟨av, r, e, m, re, rm, h⟩ =>
    ⟨av, r, e, m, re, rm, okR_imp (okR_bind h) fun xs m1 h r1 H1 p vs g1 np pr hl rm1 rvs => by
      have hw : ∀ a, Avp av p a → av a ∨ ¬ Hard H a := fun a z => z.elim .inl fun z => .inr (by rw [z]; exact np)
      have re1 : RE T (Avp av p) r1 H1 e σ := RE.map (fun x v q => (q.widen hw).grow g1) re
      refine ⟨Avp av p, r1, e, m1, re1, rm1, okR_near (okR_grow g1 (fun y m2 h => ?_) (okR_bind h))⟩
      intro r2 H2 w g2 rm2 rw
      have g12 := g1.trans g2
      split at h
      · rename_i k
        split at h
        · rename_i hk
          rw [Bool.and_eq_true] at hk
          obtain ⟨b1, b2⟩ := big62_ok hk.1
          obtain ⟨nr2, hl2⟩ := keepD g2 hl pr
          refine ⟨p, k, vs, rfl, rw.int', hl2, by omega, by omega, by rw [rvs.length]; exact szOk_le hk.2, fun q hq => ?_⟩
          have rmn := rm2.near
          exact h r2 _ q _ (g12.trans (grow_upd hq)) (g12.none (soft hq)) (rmn.fresh hq) upd_same (rmn.away hq) ((RVs.rep (rvs.grow g2) k.toNat).near.away hq)
        · exact h.elim
      · exact h.elim⟩⟩
def fRepT : PV → PV → Mem → Option PV := fun x y _ => match x, y with
  | .tup xs, .int k => if !xs.isEmpty && decide (2 ≤ k) && decide (k ≤ 1000) && Nat.ble xs.length 1000 then some (.tup (List.replicate k.toNat xs).flatten) else none
  | _, _ => none
theorem om_repT (hK : X.K = T.K) : OpM X T (binaryOp .Mult) fRepT := by
  refine ⟨_, op_repT, fun {av r H m x y z v w Q} rm rv rw e k => ?_⟩
  unfold fRepT at e
  split at e
  · rename_i xs n
    split at e
    · rename_i hc
      cases e
      simp only [Bool.and_eq_true, Bool.not_eq_true', decide_eq_true_eq] at hc
      obtain ⟨⟨⟨h1, h2⟩, h3⟩, h4⟩ := hc
      obtain ⟨p, vs, rfl, hp, hv⟩ := tup_ok hK rv
      have hn : vs ≠ [] := fun z => by
        have q := hv.length
        rw [z] at q
        rw [List.eq_nil_of_length_eq_zero q.symm] at h1
        simp at h1
      exact ⟨p, n, vs, rfl, rw.int', hp, hn, h2, h3, by rw [hv.length]; exact Nat.le_of_ble_eq_true h4, fun q hq => ke_newT rm hq (RVs.rep hv _) k⟩
    · cases e
  · cases e
end M

namespace M
open PySem PySem.Spec PyProof.Rows L2
variable {X : Cx} {T : Tx} {W : WX} {a b c : Expr} {ma mb mc : ME} {mt mu : MT} {ms mv : MS} {pos : Pos} {st : Stmt} {rest sts : List Stmt}
variable {av av' : Av} {r r' r2 : List Addr} {H H' H2 : Hp} {m m' : Mem} {tg iter : Expr}

/-! ### dicts: keys and values -/
def keyOf : PV → Option Key
  | .int i => some (.inl i)
  | .str s => some (.inr s)
  | _ => none
def eqKey : PV → Key → Bool
  | .int i, .inl j => i == j
  | .str s, .inr t => s == t
  | _, _ => false
theorem eqKey_ok (a k : Key) : eqKey (keyP a) k = decide (a = k) := by
  cases a with
  | inl i =>
    cases k with
    | inl j => show (i == j) = _; rw [Bool.eq_iff_iff]; simp
    | inr t => show false = _; simp
  | inr s =>
    cases k with
    | inl j => show false = _; simp
    | inr t => show (s == t) = _; rw [Bool.eq_iff_iff]; simp
def hasK (k : Key) (ks : List PV) : Bool := ks.any fun p => eqKey p k
def putW (k : Key) (v : PV) : List PV → List PV → List PV
  | p :: ks, w :: ws => (if eqKey p k then v else w) :: putW k v ks ws
  | _, ws => ws
def putP (ks ws : List PV) (k : Key) (v : PV) : List PV × List PV := if hasK k ks then (ks, putW k v ks ws) else (ks ++ [keyP k], ws ++ [v])
def getP (k : Key) : List PV → List PV → Option PV
  | p :: ks, w :: ws => if eqKey p k then some w else getP k ks ws
  | _, _ => none
abbrev ksOf (kvs : List (Key × V)) : List PV := kvs.map fun kv => keyP kv.1
theorem hasK_ok (kvs : List (Key × V)) (k : Key) : hasK k (ksOf kvs) = kvs.any fun kv => decide (kv.1 = k) := by
  unfold hasK ksOf
  rw [List.any_map]
  congr 1
  funext kv
  exact eqKey_ok kv.1 k
theorem putK_ok {k : Key} {v : PV} {z : V} (hz : RV T av r H v z) {kvs : List (Key × V)} {ws : List PV} (h : RVs T av r H ws (kvs.map (·.2))) :
    ksOf (putK kvs k z) = (putP (ksOf kvs) ws k v).1 ∧ RVs T av r H (putP (ksOf kvs) ws k v).2 ((putK kvs k z).map (·.2)) := by
  unfold putK putP
  rw [hasK_ok]
  by_cases q : (kvs.any fun kv => decide (kv.1 = k)) = true
  · rw [if_pos q, if_pos q]
    clear q
    constructor
    · show List.map _ (List.map _ kvs) = _
      rw [List.map_map]
      refine List.map_congr_left fun kv _ => ?_
      show keyP (if kv.1 = k then (kv.1, z) else kv).1 = keyP kv.1
      split <;> rfl
    · show RVs T av r H (putW k v (ksOf kvs) ws) _
      induction kvs generalizing ws with
      | nil =>
        unfold RVs at h
        cases ws with
        | nil => exact h
        | cons _ _ => obtain ⟨_, _, e, _⟩ := h; cases e
      | cons kv kvs ih =>
        cases ws with
        | nil => unfold RVs at h; cases h
        | cons w ws =>
          unfold RVs at h
          obtain ⟨y, ys, e, h1, h2⟩ := h
          cases e
          show RVs T av r H ((if eqKey (keyP kv.1) k then v else w) :: putW k v (ksOf kvs) ws) _
          rw [eqKey_ok]
          unfold RVs
          refine ⟨_, _, rfl, ?_, ih h2⟩
          by_cases q : kv.1 = k
          · rw [if_pos (decide_eq_true q)]
            show RV T av r H v (if kv.1 = k then (kv.1, z) else kv).2
            rw [if_pos q]; exact hz
          · rw [if_neg (by simpa using q)]
            show RV T av r H w (if kv.1 = k then (kv.1, z) else kv).2
            rw [if_neg q]; exact h1
  · rw [if_neg q, if_neg q]
    constructor
    · show List.map _ (kvs ++ [(k, z)]) = _
      rw [List.map_append]; rfl
    · rw [List.map_append]
      exact h.append (by unfold RVs; exact ⟨z, [], rfl, hz, by unfold RVs; rfl⟩)
theorem getP_ok {k : Key} : ∀ {kvs : List (Key × V)} {ws : List PV}, RVs T av r H ws (kvs.map (·.2)) → match getP k (ksOf kvs) ws with
    | some w => ∃ z, valV kvs k = some z ∧ RV T av r H w z
    | none => valV kvs k = none
  | [], ws, h => by cases ws <;> exact rfl
  | kv :: kvs, [], h => by unfold RVs at h; cases h
  | kv :: kvs, w :: ws, h => by
    unfold RVs at h
    obtain ⟨y, ys, e, h1, h2⟩ := h
    cases e
    show match (if eqKey (keyP kv.1) k then some w else getP k (ksOf kvs) ws) with
      | some w => ∃ z, valV (kv :: kvs) k = some z ∧ RV T av r H w z
      | none => valV (kv :: kvs) k = none
    rw [eqKey_ok]
    by_cases q : kv.1 = k
    · rw [if_pos (decide_eq_true q)]
      refine ⟨kv.2, ?_, h1⟩
      unfold valV
      rw [List.find?_cons_of_pos (by simpa using q)]; rfl
    · rw [if_neg (by simpa using q)]
      have e : valV (kv :: kvs) k = valV kvs k := by
        unfold valV
        rw [List.find?_cons_of_neg (by simpa using q)]
      rw [e]
      exact getP_ok h2

/-- a new dict, not yet anybody's -/
def KD (T : Tx) (av : Av) (r : List Addr) (H : Hp) (Q : VK) (d : List PV × List PV) (m' : Mem) : Prop := ∀ r' H' p kvs, Grow r H r' H' → ¬ Hard H p → p ∉ r' → H' p = some (.dK kvs) → ksOf kvs = d.1 → RM T (Avp av p) r' H' m' → RVs T (Avp av p) r' H' d.2 (kvs.map (·.2)) → Q (.ref p) H'
abbrev MD := Env → Mem → Res (List PV × List PV)
def tD (T : Tx) (W : WX) (md : MD) : TE := fun σ H Q => ∃ av r e m, RE T av r H e σ ∧ RM T av r H m ∧ okR T av r H (fun c d H' => W c d σ H') (KD T av r H Q) (md e m)
structure SD (X : Cx) (T : Tx) (W : WX) (e : Expr) (md : MD) : Prop where pe : PE X e (tD T W md)
def mD (md : MD) : ME := fun e m => (md e m).bind fun d m1 => .ok (.dct d.1 d.2) m1
def mDN (md : MD) : ME := fun e m => (md e m).bind fun d m1 => .ok (.ref m1.length) (m1 ++ [.dct d.1 d.2])
theorem rv_dct {p : Addr} {kvs : List (Key × V)} {ks ws : List PV} (o : Out av r p) (hl : H p = some (.dK kvs)) (hk : ksOf kvs = ks) (hv : RVs T av r H ws (kvs.map (·.2))) : RV T av r H (.dct ks ws) (.ref p) := by
  unfold RV
  exact ⟨p, _, rfl, o, .inl ⟨kvs, .inl hl, hk.symm, rfl⟩, hv⟩
theorem se_dct {md : MD} (ha : SD X T W a md) : SE X T W a (mD md) :=
  ⟨PE.imp ha.pe fun σ H Q ⟨av, r, e, m, re, rm, h⟩ =>
    ⟨av, r, e, m, re, rm, okR_imp (okR_bind h) fun d m1 h r1 H1 p kvs g1 hp np hl hk rm1 rvs =>
      h r1 H1 (.ref p) g1 rm1.near (rv_dct ⟨rm.freshB hp, np⟩ hl hk rvs.near)⟩⟩
theorem ro_dct {p : Addr} {kvs : List (Key × V)} {ks ws : List PV} (hl : H p = some (.dK kvs)) (hk : ksOf kvs = ks) (hv : RVs T av r H ws (kvs.map (·.2))) : RO T av r H (.dct ks ws) p := ⟨_, .inl ⟨kvs, hl, hk.symm, rfl⟩, hv⟩
theorem se_dnew {md : MD} (ha : SD X T W a md) : SE X T W a (mDN md) :=
  ⟨PE.imp ha.pe fun σ H Q ⟨av, r, e, m, re, rm, h⟩ =>
    ⟨av, r, e, m, re, rm, okR_imp (okR_bind h) fun d m1 h r1 H1 p kvs g1 hp np hl hk rm1 rvs =>
      h (r1 ++ [p]) H1 (.ref p) (grow_held g1 hp) (rm1.held np (ro_dct hl hk rvs)) (by unfold RV; exact ⟨p, by rw [← rm1.len]; simp, rfl⟩)⟩⟩
theorem set_dct {i : Nat} {D : Ends} {md : MD} {σ : L2.St} {H : Hp} (h : tS T W (mSet i (mD md)) D σ H) : tD T W md σ H (fun x H1 => D.nx (σ.set i (some x)) H1) := by
  obtain ⟨av, r, e, m, re, rm, h⟩ := h
  refine ⟨av, r, e, m, re, rm, okR_imp (okR_bind (okS_sB re h)) fun d m1 h r1 H1 p kvs g1 hp np hl hk rm1 rvs => ?_⟩
  exact h r1 H1 _ g1 rm1.near ((re.grow g1).set (rv_dct ⟨rm.freshB hp, np⟩ hl hk rvs.near) i)
theorem set_dnew {i : Nat} {D : Ends} {md : MD} {σ : L2.St} {H : Hp} (h : tS T W (mSet i (mDN md)) D σ H) : tD T W md σ H (fun x H1 => D.nx (σ.set i (some x)) H1) := by
  obtain ⟨av, r, e, m, re, rm, h⟩ := h
  refine ⟨av, r, e, m, re, rm, okR_imp (okR_bind (okS_sB re h)) fun d m1 h r1 H1 p kvs g1 hp np hl hk rm1 rvs => ?_⟩
  have g2 := grow_held g1 hp
  exact h (r1 ++ [p]) H1 _ g2 (rm1.held np (ro_dct hl hk rvs)) ((re.grow g2).set (by unfold RV; exact ⟨p, by rw [← rm1.len]; simp, rfl⟩) i)

/-! ### dict comprehensions -/
def dcL (mg : MG) (t : MT) (mk me : ME) (ew : Env) (it : MI) : Nat → Nat → List PV × List PV → Mem → Res (List PV × List PV)
  | 0, _, _, _ => .bad
  | n + 1, i, acc, m => match it m i with
    | none => .bad
    | some none => .ok acc m
    | some (some x) => (mg x ew m).calm.bind fun e1 m1 => (t e1 m1).calm.bind fun b m2 =>
      if b then (mk e1 m2).calm.bind fun y m3 => (me e1 m3).calm.bind fun z m4 => match keyOf y with
        | some k => if szOk acc.1.length then dcL mg t mk me ew it n (i + 1) (putP acc.1 acc.2 k z) m4 else .bad
        | none => .bad
      else dcL mg t mk me ew it n (i + 1) acc m2
def mDc (mi : Env → Mem → Res MI) (mg : MG) (t : MT) (mk me : ME) (vs : List Nat) : MD := fun e m => (mi e m).bind fun it m1 => dcL mg t mk me (wipeE e vs) it FUEL 0 ([], []) m1
theorem keyOf_ok {y : PV} {k : Key} {v : V} (h : keyOf y = some k) (rv : RV T av r H y v) : v = kV k := by
  unfold keyOf at h
  split at h
  · cases h; exact rv.int'
  · cases h; exact rv.str'
  · cases h
theorem keepK {D : Addr} {kvs : List (Key × V)} (g : Grow r H r' H') (hl : H D = some (.dK kvs)) (n : D ∉ r) : D ∉ r' ∧ H' D = some (.dK kvs) := by
  obtain ⟨more, em, fm⟩ := g.ext
  refine ⟨fun hm => ?_, g.keep D _ hl n (fun ps z => by cases z)⟩
  rw [em] at hm
  rcases List.mem_append.mp hm with q | q
  · exact n q
  · exact fm D q ⟨_, hl, trivial⟩
theorem dc_read {ts vs0 : List Nat} {mi : Env → Mem → Res MI} {mg : MG} {mk : ME} (hts : ts.all (fun j => vs0.contains j) = true) {σ : L2.St} {H : Hp} {Q : VK} (h : tD T W (mDc mi mg mt mk ma vs0) σ H Q) :
    tDc (tI T W mi) (tG T ts mg) (tT T (fun _ _ _ _ => False) mt) (tE T (fun _ _ _ _ => False) mk) (tE T (fun _ _ _ _ => False) ma) vs0 σ H Q := by
  obtain ⟨av, r, e, m, re, rm, h⟩ := h
  refine ⟨av, r, e, m, re, rm, okR_imp (okR_bind h) fun it m1 h r1 H1 J g1 rm1 iok D hD => ?_⟩
  have hwd : ∀ a, Avp av D a → av a ∨ ¬ Hard H1 a := fun a z => z.elim .inl fun z => .inr (by rw [z]; exact soft hD)
  have nHD : ¬ Hard H D := g1.none (soft hD)
  let okQ : Res (List PV × List PV) → Prop := okR T av r H (fun c d H' => W c d σ H') (KD T av r H Q)
  let Wo : Nat → Nat → Hp → Prop := fun i n H2 => ∃ r2 m2 acc kvs, Grow r1 H1 r2 H2 ∧ D ∉ r2 ∧ H2 D = some (.dK kvs) ∧ ksOf kvs = acc.1 ∧ RM T (Avp av D) r2 H2 m2 ∧ RVs T (Avp av D) r2 H2 acc.2 (kvs.map (·.2)) ∧ okQ (dcL mg mt mk ma (wipeE e vs0) it n i acc m2)
  refine ⟨Wo, ⟨FUEL, r1, m1, ([], []), [], grow_upd hD, rm1.fresh hD, upd_same, rfl, rm1.away hD, by show RVs T _ _ _ [] []; unfold RVs; rfl, h⟩, fun i n H2 hW => ?_⟩
  obtain ⟨r2, m2, acc, kvs, g2, nD, hl, hk, rm2, rvs, h2⟩ := hW
  cases n with
  | zero => exact h2.elim
  | succ n =>
    have hio := iok (Avp av D) r2 H2 m2 i hwd g2.toA rm2
    replace h2 : okQ (match it m2 i with
      | none => .bad
      | some none => .ok acc m2
      | some (some x) => (mg x (wipeE e vs0) m2).calm.bind fun e1 m1 => (mt e1 m1).calm.bind fun b m2 =>
        if b then (mk e1 m2).calm.bind fun y m3 => (ma e1 m3).calm.bind fun z m4 => match keyOf y with
          | some k => if szOk acc.1.length then dcL mg mt mk ma (wipeE e vs0) it n (i + 1) (putP acc.1 acc.2 k z) m4 else .bad
          | none => .bad
        else dcL mg mt mk ma (wipeE e vs0) it n (i + 1) acc m2) := h2
    split at h2
    · exact h2.elim
    · rename_i hit
      rw [hit] at hio
      exact .inl ⟨hio, h2 r2 H2 D kvs (g1.trans g2) nHD nD hl hk rm2 rvs⟩
    · rename_i x hit
      rw [hit] at hio
      refine .inr ⟨hio.1, fun H' => ∃ n', n' < n + 1 ∧ Wo (i + 1) n' H', fun H' h => h, fun v H3 y => ?_⟩
      obtain ⟨r3, g3, rm3, rv3⟩ := hio.2 v H3 y
      have reW : RE T (Avp av D) r3 H3 (wipeE e vs0) (wipe σ vs0) := (RE.map (fun x v q => ((q.grow g1).widen hwd).grow (g2.trans g3)) re).wipe _
      refine ⟨Avp av D, r3, _, m2, x, reW, rm3, rv3, okR_imp (okR_calm h2) fun e4 m4 h r4 H4 σ4 g4 rm4 re4 ag4 => ⟨?_, ?_⟩⟩
      · exact wipe_agree (ag4.mono fun j hj => by
          have q := List.all_eq_true.mp hts j hj
          rwa [List.contains_iff_mem] at q)
      · refine ⟨Avp av D, r4, e4, m4, re4, rm4, okR_imp (okR_calm h) fun b m5 h r5 H5 g5 rm5 => ?_⟩
        have g25 := (g3.trans g4).trans g5
        obtain ⟨n5, hl5⟩ := keepK g25 hl nD
        cases b with
        | false => exact iteF ⟨n, Nat.lt_succ_self n, r5, m5, acc, kvs, g2.trans g25, n5, hl5, hk, rm5, rvs.grow g25, h⟩
        | true =>
          refine iteT ⟨Avp av D, r5, e4, m5, re4.grow g5, rm5, okR_imp (okR_calm h) fun yk m6 h r6 H6 w6 g6 rm6 rw6 => ?_⟩
          refine ⟨Avp av D, r6, e4, m6, (re4.grow g5).grow g6, rm6, okR_imp (okR_calm h) fun z m7 h r7 H7 w7 g7 rm7 rw7 => ?_⟩
          have g27 := (g25.trans g6).trans g7
          obtain ⟨n7, hl7⟩ := keepK g27 hl nD
          split at h
          · rename_i k hky
            split at h
            · rename_i hz
              have hz2 : kvs.length < sizeLine := by
                rw [← hk, List.length_map] at hz
                exact szOk_lt hz
              obtain ⟨q1, q2⟩ := putK_ok (k := k) rw7 (rvs.grow g27)
              rw [hk] at q1 q2
              exact ⟨kvs, k, keyOf_ok hky rw6, hl7, hz2, n, Nat.lt_succ_self n, r7, m7, _, _, grow_rw (soft hD) (g2.trans g27), n7, upd_same, q1, rm7.rewrite n7 (by rw [hl7]; trivial), q2.rewrite, h⟩
            · exact h.elim
          · exact h.elim
end M

namespace M
open PySem PySem.Spec PyProof.Rows L2
variable {X : Cx} {T : Tx} {W : WX} {a b c : Expr} {ma mb mc : ME} {mt mu : MT} {ms mv : MS} {pos : Pos} {st : Stmt} {rest sts : List Stmt}
variable {av av' : Av} {r r' r2 : List Addr} {H H' H2 : Hp} {m m' : Mem} {tg iter : Expr}
section
variable {kx : Expr} {ifs : List Expr} {scope : Scope} {own : List (Str × Nat)} {ts : List Nat} {mi : Env → Mem → Res MI} {mg : MG} {mk : ME}
theorem ps_setDc {i : Nat} {y : Str} {py spos : Pos} {wi : TI} {g : TG} {tt : TT} {tk tv : TE} (hc : X.calm = true) (hN : X.N.Nodup) (hy : X.N[i]? = some y) (hyl : X.env.scope.names.lookup y = some .local)
    (hsw : swapsWith (.DictComp kx a [⟨tg, iter, ifs, 0⟩] scope pos) (some (.Name y py)) spos.line X.env = pure true) (hi : PI X tg iter wi) (ok : BlkOk X.N X.env.scope scope own)
    (hg : ∀ (s : Shared) (H : Hp) (C : Addr) (cl : List (Str × Addr)) (fp : List Addr), PG (X.blk s H scope (compEnvC scope cl C X.env) fp) tg g) (ht : ∀ (s : Shared) (H : Hp) (C : Addr) (cl : List (Str × Addr)) (fp : List Addr), PTs (X.blk s H scope (compEnvC scope cl C X.env) fp) ifs tt)
    (hk : ∀ (s : Shared) (H : Hp) (C : Addr) (cl : List (Str × Addr)) (fp : List Addr), PE (X.blk s H scope (compEnvC scope cl C X.env) fp) kx tk) (he : ∀ (s : Shared) (H : Hp) (C : Addr) (cl : List (Str × Addr)) (fp : List Addr), PE (X.blk s H scope (compEnvC scope cl C X.env) fp) a tv)
    (hs : ∀ x, foldedSetIterable iter X.env x = pure x) : PS X (.Assign [.Name y py] (.DictComp kx a [⟨tg, iter, ifs, 0⟩] scope pos) spos) (fun D σ H => tDc wi g tt tk tv (own.map (·.2)) σ H (fun x H1 => D.nx (σ.set i (some x)) H1)) := by
  constructor
  intro pins s σ H D I h
  rw [exec_Assign_Name_used _ _ _ _ hsw]
  refine wpAny_bind (wpAny_standAt (wpAny_bind ?_))
  show wpAny _ X.A (do let _ ← comprehension (.DictComp kx a [⟨tg, iter, ifs, 0⟩] scope pos) scope X.env (firstIterPos [⟨tg, iter, ifs, 0⟩] pos) newDict false (eval iter X.env) (some (assign (.Name y py) X.env))) _ _ s
  refine wpAny_bind (thn (dc_core (Qf := fun _ z => SP X pins D .next z) hc hN I hi ok hg ht hk he hs h fun L C z m H' J q hn f => ?_) fun _ z hq => wpAny_pure (wpAny_pure hq))
  show wpAny _ _ (assign (.Name y py) X.env (.ref L)) _ _ _
  refine wpAny_assign_Name (store_ok2 (v := V.ref L) J hN hy (.inl hyl) rfl (fun z2 J2 ⟨q2, sb, hq2⟩ => ?_) (.inr hyl))
  obtain ⟨f0, f1, f2, f3, f4, f5⟩ := f
  have ne : C ≠ q2 := hq2.elim (fun e => by rw [e]; exact f1) fun e e2 => f4 y q2 e e2.symm
  exact ⟨m, hn.sameBut sb ne, fun z3 sb3 => ⟨_, H', J2.turned (t' := z2.toks) (fun b o hb e => (sb3.2 b hb).trans e) f0 f1 f3 f4 f5, q⟩⟩
theorem sd_dc (hc : X.calm = true) (hN : X.N.Nodup) (hi : SI X T W tg iter mi) (ok : blkC X.N X.env.scope scope own = true)
    (hg : ∀ (s : Shared) (H : Hp) (C : Addr) (cl : List (Str × Addr)) (fp : List Addr), SG (X.blk s H scope (compEnvC scope cl C X.env) fp) T ts tg mg)
    (ht : ∀ (s : Shared) (H : Hp) (C : Addr) (cl : List (Str × Addr)) (fp : List Addr), STs (X.blk s H scope (compEnvC scope cl C X.env) fp) T (fun _ _ _ _ => False) ifs mt)
    (hk : ∀ (s : Shared) (H : Hp) (C : Addr) (cl : List (Str × Addr)) (fp : List Addr), SE (X.blk s H scope (compEnvC scope cl C X.env) fp) T (fun _ _ _ _ => False) kx mk)
    (he : ∀ (s : Shared) (H : Hp) (C : Addr) (cl : List (Str × Addr)) (fp : List Addr), SE (X.blk s H scope (compEnvC scope cl C X.env) fp) T (fun _ _ _ _ => False) a ma)
    (hts : ts.all (fun j => (own.map (·.2)).contains j) = true) (hs : ∀ x, foldedSetIterable iter X.env x = pure x := by intro _; rfl) : SD X T W (.DictComp kx a [⟨tg, iter, ifs, 0⟩] scope pos) (mDc mi mg mt mk ma (own.map (·.2))) :=
  ⟨PE.imp (pe_dc hc hN hi.pi (blkOk_by ok) (fun s H C cl fp => (hg s H C cl fp).pg) (fun s H C cl fp => (ht s H C cl fp).pts) (fun s H C cl fp => (hk s H C cl fp).pe) (fun s H C cl fp => (he s H C cl fp).pe) hs) fun σ H Q h => dc_read hts h⟩
theorem dc_stmt {i : Nat} {y : Str} {py spos : Pos} {ms : MS} (hset : ∀ {D : Ends} {σ : L2.St} {H : Hp}, tS T W ms D σ H → tD T W (mDc mi mg mt mk ma (own.map (·.2))) σ H (fun x H1 => D.nx (σ.set i (some x)) H1))
    (hc : X.calm = true) (hN : X.N.Nodup) (hy : X.N[i]? = some y) (hyl : X.env.scope.names.lookup y = some .local) (hsw : swapsWith (.DictComp kx a [⟨tg, iter, ifs, 0⟩] scope pos) (some (.Name y py)) spos.line X.env = pure true)
    (hi : SI X T W tg iter mi) (ok : blkC X.N X.env.scope scope own = true)
    (hg : ∀ (s : Shared) (H : Hp) (C : Addr) (cl : List (Str × Addr)) (fp : List Addr), SG (X.blk s H scope (compEnvC scope cl C X.env) fp) T ts tg mg)
    (ht : ∀ (s : Shared) (H : Hp) (C : Addr) (cl : List (Str × Addr)) (fp : List Addr), STs (X.blk s H scope (compEnvC scope cl C X.env) fp) T (fun _ _ _ _ => False) ifs mt)
    (hk : ∀ (s : Shared) (H : Hp) (C : Addr) (cl : List (Str × Addr)) (fp : List Addr), SE (X.blk s H scope (compEnvC scope cl C X.env) fp) T (fun _ _ _ _ => False) kx mk)
    (he : ∀ (s : Shared) (H : Hp) (C : Addr) (cl : List (Str × Addr)) (fp : List Addr), SE (X.blk s H scope (compEnvC scope cl C X.env) fp) T (fun _ _ _ _ => False) a ma)
    (hts : ts.all (fun j => (own.map (·.2)).contains j) = true) (hs : ∀ x, foldedSetIterable iter X.env x = pure x := by intro _; rfl) : SS X T W (.Assign [.Name y py] (.DictComp kx a [⟨tg, iter, ifs, 0⟩] scope pos) spos) ms :=
  ⟨PS.imp (ps_setDc hc hN hy hyl hsw hi.pi (blkOk_by ok) (fun s H C cl fp => (hg s H C cl fp).pg) (fun s H C cl fp => (ht s H C cl fp).pts) (fun s H C cl fp => (hk s H C cl fp).pe) (fun s H C cl fp => (he s H C cl fp).pe) hs) fun D σ H h => dc_read hts (hset h)⟩
theorem sw_trueD {gs : List Comprehension} {py : Pos} {y : Str} {n : Nat} {env : PySem.Env} (kb : env.blockKind = .function) (hy : env.scope.names.lookup y = some .local) (hl : (py.line == pos.line) = true)
    (ha : (scope.names.any fun (n, k) => n == y && (k == .local || k == .cell)) = false) : swapsWith (.DictComp kx a gs scope pos) (some (.Name y py)) n env = pure true := by
  have ky : env.kindOf y = some .local := hy
  show (pure (env.blockKind == .function && env.kindOf y == some .local && py.line == pos.line && !(scope.names.any fun (n, k) => n == y && (k == .local || k == .cell))) : Sem Bool) = pure true
  rw [ky, kb, hl, ha]
  rfl
end

/-! ### reading and writing dicts -/
def dctOf : PV → Mem → Option (List PV × List PV)
  | .dct ks ws, _ => some (ks, ws)
  | .ref i, m => match m[i]? with
    | some (.dct ks ws) => some (ks, ws)
    | _ => none
  | _, _ => none
/-- all keys are ints or texts -/
def flatKs (ks : List PV) : Bool := ks.all fun k => (keyOf k).isSome
theorem dk_flat {a : Addr} {ks : List PV} {vs : List V} (h : DK H a ks vs) (hf : flatKs ks = true) : ∃ kvs : List (Key × V), Rd H a (.dK kvs) ∧ ks = ksOf kvs ∧ vs = kvs.map (·.2) := by
  rcases h with h | ⟨kvs, h1, h2, h3, hne⟩
  · exact h
  · exfalso
    cases kvs with
    | nil => exact hne rfl
    | cons kv kvs =>
      rw [h2] at hf
      unfold flatKs at hf
      rw [List.map_cons, List.all_cons, Bool.and_eq_true] at hf
      have q := hf.1
      unfold keyOf at q
      cases q
theorem dctOf_ok {x : PV} {v : V} {ks ws : List PV} (rm : RM T av r H m) (rv : RV T av r H x v) (h : dctOf x m = some (ks, ws)) : ∃ a vs, v = .ref a ∧ DK H a ks vs ∧ RVs T av r H ws vs := by
  unfold dctOf at h
  split at h
  · cases h
    unfold RV at rv
    obtain ⟨a, vs, rfl, _, d, hv⟩ := rv
    exact ⟨a, vs, rfl, d, hv⟩
  · split at h
    · rename_i i m ks' ws' hx
      cases h
      unfold RV at rv
      obtain ⟨a, h1, rfl⟩ := rv
      obtain ⟨vs, h2, h3⟩ := rm.ob _ _ a hx h1
      exact ⟨a, vs, rfl, h2.dk, h3⟩
    · cases h
  · cases h
/-- what stands at y; an empty dict may be of either kind -/
def lookP (x y : PV) (m : Mem) : Option (Option PV) := match dctOf x m, keyOf y with
  | some (ks, ws), some k => if flatKs ks then some (getP k ks ws) else none
  | _, _ => none
def OptV (T : Tx) (av : Av) (r : List Addr) (H : Hp) : Option PV → Option V → Prop
  | some u, z => ∃ q, z = some q ∧ RV T av r H u q
  | none, z => z = none
theorem lookP_ok {x y : PV} {v w : V} {o : Option PV} (rm : RM T av r H m) (rv : RV T av r H x v) (rw : RV T av r H y w) (h : lookP x y m = some o) : ∃ a z, v = .ref a ∧ DGet H a w z ∧ OptV T av r H o z := by
  unfold lookP at h
  split at h
  · rename_i ks ws k hd hk
    split at h
    · rename_i hf
      obtain ⟨a, vs, rfl, d, hv⟩ := dctOf_ok rm rv hd
      obtain ⟨kvs, h1, h2, h3⟩ := dk_flat d hf
      subst h2 h3
      refine ⟨a, valV kvs k, rfl, .inl ⟨kvs, k, h1, keyOf_ok hk rw, rfl⟩, ?_⟩
      have q := getP_ok (k := k) hv
      rw [← Option.some.inj h]
      cases hu : getP k (ksOf kvs) ws with
      | none => rw [hu] at q; exact q
      | some u => rw [hu] at q; exact q
    · cases h
  · cases h
def mIn (neg : Bool) (ma mb : ME) : ME := fun e m => (ma e m).bind fun y m1 => (mb e m1).bind fun x m2 => match lookP x y m2 with
  | some o => .ok (.bl (if neg then !o.isSome else o.isSome)) m2
  | none => .bad
theorem optV_some {o : Option PV} {z : Option V} (h : OptV T av r H o z) : z.isSome = o.isSome := by
  cases o with
  | none => have q : z = none := h; rw [q]; rfl
  | some u => obtain ⟨q, e, _⟩ := h; rw [e]; rfl
theorem se_inD (hu : X.A.units + 1 < cLine) (ha : SE X T W a ma) (hb : SE X T W b mb) (hm : behindInMarks .In b = false) : SE X T W (.Compare a [.In] [b] pos) (mIn false ma mb) :=
  ⟨PE.imp (pe_cmp (pc_din hu ha.pe hb.pe) hm) fun σ H Q ⟨av, r, e, m, re, rm, h⟩ =>
    ⟨av, r, e, m, re, rm, okR_imp (okR_bind h) fun y m1 h r1 H1 w g1 rm1 rw => ⟨av, r1, e, m1, re.grow g1, rm1, okR_grow g1 (fun x m2 h r2 H2 v g2 rm2 rv => by
      split at h
      · rename_i o ho
        obtain ⟨a, z, rfl, hg, hz⟩ := lookP_ok rm2 rv (rw.grow g2) ho
        refine ⟨a, z, rfl, hg, ?_⟩
        rw [optV_some hz]
        exact h r2 H2 _ (g1.trans g2) rm2 rv_bl
      · exact h.elim) (okR_bind h)⟩⟩⟩
theorem se_notinD (hu : X.A.units + 1 < cLine) (ha : SE X T W a ma) (hb : SE X T W b mb) (hm : behindInMarks .NotIn b = false) : SE X T W (.Compare a [.NotIn] [b] pos) (mIn true ma mb) :=
  ⟨PE.imp (pe_cmp (pc_dnotin hu ha.pe hb.pe) hm) fun σ H Q ⟨av, r, e, m, re, rm, h⟩ =>
    ⟨av, r, e, m, re, rm, okR_imp (okR_bind h) fun y m1 h r1 H1 w g1 rm1 rw => ⟨av, r1, e, m1, re.grow g1, rm1, okR_grow g1 (fun x m2 h r2 H2 v g2 rm2 rv => by
      split at h
      · rename_i o ho
        obtain ⟨a, z, rfl, hg, hz⟩ := lookP_ok rm2 rv (rw.grow g2) ho
        refine ⟨a, z, rfl, hg, ?_⟩
        rw [optV_some hz]
        exact h r2 H2 _ (g1.trans g2) rm2 rv_bl
      · exact h.elim) (okR_bind h)⟩⟩⟩
def mGet (ma mb : ME) : ME := fun e m => (ma e m).bind fun x m1 => (mb e m1).bind fun y m2 => match lookP x y m2 with
  | some (some w) => .ok w m2
  | _ => .bad
theorem se_get (hu : X.A.units + 1 < cLine) (ha : SE X T W a ma) (hb : SE X T W b mb) (hs : NoSl b) : SE X T W (.Subscript a b pos) (mGet ma mb) :=
  ⟨PE.imp (pe_dget hu ha.pe hb.pe hs) fun σ H Q ⟨av, r, e, m, re, rm, h⟩ =>
    ⟨av, r, e, m, re, rm, okR_imp (okR_bind h) fun x m1 h r1 H1 v g1 rm1 rv => ⟨av, r1, e, m1, re.grow g1, rm1, okR_grow g1 (fun y m2 h r2 H2 w g2 rm2 rw => by
      split at h
      · rename_i u hu
        obtain ⟨a, z, rfl, hg, q, rfl, hq⟩ := lookP_ok rm2 (rv.grow g2) rw hu
        exact ⟨a, q, rfl, hg, h r2 H2 _ (g1.trans g2) rm2 hq⟩
      · exact h.elim) (okR_bind h)⟩⟩⟩
/-- d[y] = v -/
def wrD (x o y : PV) (m : Mem) : Option Mem := match o, keyOf y with
  | .ref j, some k => match m[j]? with
    | some (.dct ks ws) => if flatKs ks && szOk ks.length then some (m.set j (.dct (putP ks ws k x).1 (putP ks ws k x).2)) else none
    | _ => none
  | _, _ => none
theorem wrD_ok {x o y : PV} {v u w : V} (rm : RM T av r H m) (rx : RV T av r H x v) (ro : RV T av r H o u) (ry : RV T av r H y w) (h : wrD x o y m = some m') : ∃ p H3, u = .ref p ∧ DPut H p w v H3 ∧ Grow r H r H3 ∧ RM T av r H3 m' := by
  unfold wrD at h
  split at h
  · rename_i j k hk
    split at h
    · rename_i ks ws hx
      split at h
      · rename_i hc
        cases h
        rw [Bool.and_eq_true] at hc
        unfold RV at ro
        obtain ⟨p, h1, rfl⟩ := ro
        obtain ⟨vs, h2, h3⟩ := rm.ob j _ p hx h1
        have hp : p ∈ r := List.mem_of_getElem? h1
        rcases h2 with ⟨kvs, d, e1, e2⟩ | ⟨kvs, d, e1, e2, ne⟩
        · subst e1 e2
          have hz : kvs.length < sizeLine := by
            have q := hc.2
            rw [List.length_map] at q
            exact szOk_lt q
          obtain ⟨q1, q2⟩ := putK_ok (k := k) rx h3
          refine ⟨p, _, rfl, .inl ⟨kvs, k, d, keyOf_ok hk ry, hz, rfl⟩, grow_write hp, rm.write h1 (by first | (rw [hl]; trivial) | (rw [hA]; trivial) | (rw [d]; trivial)) ⟨_, .inl ⟨_, upd_same, q1.symm, rfl⟩, q2.out (out_mem hp)⟩⟩
        · exfalso
          cases kvs with
          | nil => exact ne rfl
          | cons kv kvs =>
            have q := hc.1
            rw [e1] at q
            unfold flatKs at q
            rw [List.map_cons, List.all_cons, Bool.and_eq_true] at q
            have q := q.1
            unfold keyOf at q
            cases q
      · cases h
    · cases h
  · cases h
def mPut (md mi mv : ME) : MS := fun e m => sB (mv e m) e fun x m1 => sB (md e m1) e fun o m2 => sB (mi e m2) e fun y m3 => match wrD x o y m3 with
  | some m4 => .nx e m4
  | none => .bad
theorem ss_put {pos' : Pos} {mv : ME} (hu : X.A.units + 1 < cLine) (ho : SE X T W a ma) (hi : SE X T W b mb) (hv : SE X T W c mv) (hs : swapsWith c (some (.Subscript a b pos')) pos.line X.env = pure false := by rfl) : SS X T W (.Assign [.Subscript a b pos'] c pos) (mPut ma mb mv) :=
  ⟨PS.imp (ps_dput hu ho.pe hi.pe hv.pe hs) fun D σ H ⟨av, r, e, m, re, rm, h⟩ => ⟨av, r, e, m, re, rm, okR_imp (okS_sB re h) fun x m1 h r1 H1 v g1 rm1 rx =>
    ⟨av, r1, e, m1, re.grow g1, rm1, okR_imp (okS_sB (re.grow g1) (h.grow g1)) fun o m2 h r2 H2 u g2 rm2 ro =>
      ⟨av, r2, e, m2, (re.grow g1).grow g2, rm2, okR_imp (okS_sB ((re.grow g1).grow g2) (h.grow g2)) fun y m3 h r3 H3 w g3 rm3 ry => by
        split at h
        · rename_i m4 hw
          obtain ⟨p, H4, rfl, hd, g4, rm4⟩ := wrD_ok rm3 (rx.grow (g2.trans g3)) (ro.grow g3) ry hw
          exact ⟨p, H4, rfl, hd, h r3 H4 σ (g3.trans g4) rm4 (((re.grow g1).grow g2).grow (g3.trans g4))⟩
        · exact h.elim⟩⟩⟩⟩
end M

namespace M
open PySem PySem.Spec PyProof.Rows L2
variable {X : Cx} {T : Tx} {W : WX} {a b c : Expr} {ma mb mc : ME} {mt mu : MT} {ms mv : MS} {pos : Pos} {st : Stmt} {rest sts : List Stmt}
variable {av av' : Av} {r r' r2 : List Addr} {H H' H2 : Hp} {m m' : Mem} {tg iter : Expr}
def mDnil : MD := fun _ m => .ok ([], []) m
theorem sd_nil : SD X T W (.Dict [] [] pos) mDnil :=
  ⟨PE.imp pe_dnewK fun σ H Q ⟨av, r, e, m, re, rm, h⟩ p hp => h r _ p [] (grow_upd hp) (soft hp) (rm.fresh hp) upd_same rfl (rm.away hp) (by show RVs T _ _ _ [] []; unfold RVs; rfl)⟩
/-! ### a call of what a name holds -/
abbrev Tb := List (Nat × Nat × MF)
def tbGet (k : Nat) : Tb → Option (Nat × MF)
  | [] => none
  | (k', n, mf) :: l => if k' == k then some (n, mf) else tbGet k l
def mCallV (i : Nat) (tb : Tb) (mr : MA) : ME := fun e m => match e[i]? with
  | some (some (.glo k)) => match tbGet k tb with
    | some (n, mf) => (mr e m).bind fun xs m1 => runP n mf xs m1
    | none => .bad
  | _ => .bad
/-- the defs of a table -/
def TbOk (X : Cx) (T : Tx) (k : Nat) (tb : Tb) : Prop := ∀ j n mf, tbGet j tb = some (n, mf) → ∃ (f : Addr) (fd : FuncData) (ps : List Str), T.g j = .ref f ∧ FnOk X.prog X.w X.K X.mg X.base (L2.CX X.prog X.w) k f fd ps (spM T n mf) ∧ PySem.W.keepIn X.K (.ref f) = true ∧ Binds X.K fd ps []
theorem tb_nil {k : Nat} : TbOk X T k [] := fun j n mf h => by cases h
theorem tb_cons {k j n : Nat} {mf : MF} {tb : Tb} {f : Addr} {fd : FuncData} {ps : List Str} (hg : T.g j = .ref f) (F : FnOk X.prog X.w X.K X.mg X.base (L2.CX X.prog X.w) k f fd ps (spM T n mf)) (hk : PySem.W.keepIn X.K (.ref f) = true) (hb : Binds X.K fd ps []) (h : TbOk X T k tb) : TbOk X T k ((j, n, mf) :: tb) := by
  intro j' n' mf' h'
  unfold tbGet at h'
  split at h'
  · rename_i e
    cases h'
    have q := eq_of_beq e
    subst q
    exact ⟨f, fd, ps, hg, F, hk, hb⟩
  · exact h j' n' mf' h'
theorem se_callV {k i : Nat} {x : Str} {p : Pos} {es : List Expr} {mr : MA} {E : XK} {tb : Tb} (D : TbOk X T k tb) (hr : Room k X.A) (hN : X.N[i]? = some x) (hv : Vis X.env.scope x) (tk : Takes X (WN E)) (ha : SA X T (WN E) (a :: es) mr)
    (hd : (x == ("__debug__" : Str)) = false := by decide) (hcd : (x == ("__classdict__" : Str)) = false := by decide) (he : starEach (a :: es) X.env = (false, eval a X.env) :: starEach es X.env := by rfl) (hpl : (backTo pos (starEach es X.env)).any (·.1) = false := by rfl) :
    SE X T (WN E) (.Call (.Name x p) (a :: es) [] pos) (mCallV i tb mr) := by
  refine ⟨⟨fun pins s σ H Q I ⟨av, r, e, m, re, rm, h⟩ => ?_⟩⟩
  unfold mCallV at h
  split at h
  · rename_i k' hk'
    split at h
    · rename_i n mf hg
      obtain ⟨f, fd, ps, hf, F, hkp, hb⟩ := D _ _ _ hg
      obtain ⟨w, hw, rw⟩ := re.get hk'
      unfold RV at rw
      rw [rw, hf] at hw
      refine (pe_callL F hr hN hv hkp hb .nil (passes_call tk (fun _ _ _ _ h => h)) ha.pa hd hcd he hpl).run pins s σ H Q I ⟨hw, av, r, e, m, re, rm, okR_imp (okR_bind h) fun xs m1 h r1 H1 vs g1 rm1 rv1 => ?_⟩
      show spM T n mf (vs ++ []) H1 Q E
      rw [List.append_nil]
      exact sp_callP rm1 rv1 (okR_grow g1 (fun _ _ q => KE.grow g1 q) h)
    · exact h.elim
  · exact h.elim
end M

namespace M
open PySem PySem.Spec PyProof.Rows L2
variable {X : Cx} {T : Tx} {W : WX} {a b c : Expr} {ma mb mc : ME} {mt mu : MT} {ms mv : MS} {pos : Pos} {st : Stmt} {rest sts : List Stmt}
variable {tg iter : Expr}
/-! ### one of two readings: the first that follows -/
def pickR {s : Type} (x y : Res s) : Res s := match x with
  | .bad => y
  | z => z
def mPick {s : Type} (f g : Env → Mem → Res s) : Env → Mem → Res s := fun e m => pickR (f e m) (g e m)
theorem pickR_or {s : Type} (x y : Res s) : pickR x y = x ∨ pickR x y = y := by
  cases x with
  | bad => exact .inr rfl
  | ok _ _ => exact .inl rfl
  | exc _ _ _ => exact .inl rfl
theorem PE.either {e : Expr} {t t' : TE} (h : PE X e t) (h' : PE X e t') : PE X e (fun σ H Q => t σ H Q ∨ t' σ H Q) := ⟨fun pins s σ H Q I k => k.elim (h.run pins s σ H Q I) (h'.run pins s σ H Q I)⟩
theorem se_pick (h : SE X T W a ma) (h' : SE X T W a mb) : SE X T W a (mPick ma mb) :=
  ⟨PE.imp (M.PE.either h.pe h'.pe) fun σ H Q ⟨av, r, e, m, re, rm, k⟩ => by
    rcases pickR_or (ma e m) (mb e m) with q | q
    · refine .inl ⟨av, r, e, m, re, rm, ?_⟩
      rw [← q]; exact k
    · refine .inr ⟨av, r, e, m, re, rm, ?_⟩
      rw [← q]; exact k⟩
theorem sf_pick {ma mb : MA} (h : SF X T W a ma) (h' : SF X T W a mb) : SF X T W a (mPick ma mb) :=
  ⟨PE.imp (M.PE.either h.pe h'.pe) fun σ H Q ⟨av, r, e, m, re, rm, k⟩ => by
    rcases pickR_or (ma e m) (mb e m) with q | q
    · refine .inl ⟨av, r, e, m, re, rm, ?_⟩
      rw [← q]; exact k
    · refine .inr ⟨av, r, e, m, re, rm, ?_⟩
      rw [← q]; exact k⟩
theorem PI.either {t t' : TI} (h : PI X tg iter t) (h' : PI X tg iter t') : PI X tg iter (fun σ H R => t σ H R ∨ t' σ H R) := ⟨fun pins s σ H R I k => k.elim (h.run pins s σ H R I) (h'.run pins s σ H R I)⟩
theorem si_pick {ma mb : Env → Mem → Res MI} (h : SI X T W tg iter ma) (h' : SI X T W tg iter mb) : SI X T W tg iter (mPick ma mb) :=
  ⟨PI.imp (M.PI.either h.pi h'.pi) fun σ H R ⟨av, r, e, m, re, rm, k⟩ => by
    rcases pickR_or (ma e m) (mb e m) with q | q
    · refine .inl ⟨av, r, e, m, re, rm, ?_⟩
      rw [← q]; exact k
    · refine .inr ⟨av, r, e, m, re, rm, ?_⟩
      rw [← q]; exact k⟩
theorem PS.either {t t' : TS} (h : PS X st t) (h' : PS X st t') : PS X st (fun D σ H => t D σ H ∨ t' D σ H) := ⟨fun pins s σ H D I k => k.elim (h.run pins s σ H D I) (h'.run pins s σ H D I)⟩
def mPickS (f g : MS) : MS := fun e m => match f e m with
  | .bad => g e m
  | z => z
theorem ss_pick (h : SS X T W st ms) (h' : SS X T W st mv) : SS X T W st (mPickS ms mv) :=
  ⟨PS.imp (M.PS.either h.ps h'.ps) fun D σ H ⟨av, r, e, m, re, rm, k⟩ => by
    by_cases q : ms e m = .bad
    · refine .inr ⟨av, r, e, m, re, rm, ?_⟩
      unfold mPickS at k
      rw [q] at k
      exact k
    · refine .inl ⟨av, r, e, m, re, rm, ?_⟩
      unfold mPickS at k
      split at k
      · rename_i z
        exact absurd z q
      · exact k⟩
end M

namespace M
open PySem PySem.Spec PyProof.Rows L2
variable {X : Cx} {T : Tx} {W : WX} {a b c : Expr} {ma mb mc : ME} {mt mu : MT} {ms mv : MS} {pos : Pos} {st : Stmt} {rest sts : List Stmt}
theorem PT.either {e : Expr} {t t' : TT} (h : PT X e t) (h' : PT X e t') : PT X e (fun σ H Q => t σ H Q ∨ t' σ H Q) := ⟨fun pins s σ H Q I k => k.elim (h.run pins s σ H Q I) (h'.run pins s σ H Q I)⟩
theorem st_pick (h : ST X T W a mt) (h' : ST X T W a mu) : ST X T W a (mPick mt mu) :=
  ⟨PT.imp (M.PT.either h.pt h'.pt) fun σ H Q ⟨av, r, e, m, re, rm, k⟩ => by
    rcases pickR_or (mt e m) (mu e m) with q | q
    · refine .inl ⟨av, r, e, m, re, rm, ?_⟩
      rw [← q]; exact k
    · refine .inr ⟨av, r, e, m, re, rm, ?_⟩
      rw [← q]; exact k⟩
theorem tb_read {me : ME} {t : TE} (f : ∀ σ H Q, tE T W me σ H Q → t σ H Q) : ∀ σ H Q, tT T W (mTb me) σ H Q → t σ H fun x H1 => ∃ b, x = .bl b ∧ Q b H1 := fun σ H Q ⟨av, r, e, m, re, rm, h⟩ =>
  f σ H _ ⟨av, r, e, m, re, rm, okR_imp (okR_bind h) fun x m1 h r1 H1 v g1 rm1 rv => by
    obtain ⟨b, rfl, k⟩ := okR_tb h
    exact ⟨b, rv.bl', k r1 H1 g1 rm1⟩⟩
theorem st_inD (hu : X.A.units + 1 < cLine) (ha : SE X T W a ma) (hb : SE X T W b mb) (hm : behindInMarks .In b = false) : ST X T W (.Compare a [.In] [b] pos) (mTb (mIn false ma mb)) :=
  ⟨PT.imp (pt_cmp (pc_din hu ha.pe hb.pe) hm) (tb_read (t := tDIn (tE T W ma) (tE T W mb)) fun σ H Q ⟨av, r, e, m, re, rm, h⟩ =>
    ⟨av, r, e, m, re, rm, okR_imp (okR_bind h) fun y m1 h r1 H1 w g1 rm1 rw => ⟨av, r1, e, m1, re.grow g1, rm1, okR_grow g1 (fun x m2 h r2 H2 v g2 rm2 rv => by
      split at h
      · rename_i o ho
        obtain ⟨a, z, rfl, hg, hz⟩ := lookP_ok rm2 rv (rw.grow g2) ho
        refine ⟨a, z, rfl, hg, ?_⟩
        rw [optV_some hz]
        exact h r2 H2 _ (g1.trans g2) rm2 rv_bl
      · exact h.elim) (okR_bind h)⟩⟩)⟩
theorem st_notinD (hu : X.A.units + 1 < cLine) (ha : SE X T W a ma) (hb : SE X T W b mb) (hm : behindInMarks .NotIn b = false) : ST X T W (.Compare a [.NotIn] [b] pos) (mTb (mIn true ma mb)) :=
  ⟨PT.imp (pt_cmp (pc_dnotin hu ha.pe hb.pe) hm) (tb_read (t := tDNotIn (tE T W ma) (tE T W mb)) fun σ H Q ⟨av, r, e, m, re, rm, h⟩ =>
    ⟨av, r, e, m, re, rm, okR_imp (okR_bind h) fun y m1 h r1 H1 w g1 rm1 rw => ⟨av, r1, e, m1, re.grow g1, rm1, okR_grow g1 (fun x m2 h r2 H2 v g2 rm2 rv => by
      split at h
      · rename_i o ho
        obtain ⟨a, z, rfl, hg, hz⟩ := lookP_ok rm2 rv (rw.grow g2) ho
        refine ⟨a, z, rfl, hg, ?_⟩
        rw [optV_some hz]
        exact h r2 H2 _ (g1.trans g2) rm2 rv_bl
      · exact h.elim) (okR_bind h)⟩⟩)⟩
theorem _root_.L2.Room.u0 {k : Nat} {A : Around} (r : Room k A) : A.units < cLine := by have := r.un; omega
theorem _root_.L2.Room.u1 {k : Nat} {A : Around} (r : Room k A) : A.units + 1 < cLine := by have := r.un; omega
theorem _root_.L2.Room.u64 {k : Nat} {A : Around} (r : Room k A) : A.units + 64 < cLine := by have := r.un; omega
theorem _root_.L2.Room.u65 {k : Nat} {A : Around} (r : Room k A) : A.units + 65 < cLine := by have := r.un; omega
end M

namespace M
open PySem PySem.Spec PyProof.Rows L2
variable {X : Cx} {T : Tx} {W : WX} {a b c : Expr} {ma mb mc : ME} {mt mu : MT} {ms mv : MS} {pos : Pos} {st : Stmt} {rest sts : List Stmt}
variable {av av' : Av} {r r' r2 : List Addr} {H H' H2 : Hp} {m m' : Mem}
variable {x : Str} {f : Addr} {fd : FuncData} {ps : List Str} {k n : Nat}
section
variable {P : Program} {w : World} {K : PySem.W.Frag} {mg : Str → Option Value} {base : Heap}
/-- fg_mk, the code object told -/
theorem fg_mkC {qual : Str} {N : List Str} {body : MS} {cdv : Value} (F : Fun K x qual st f fd) (S : FnScope N ps (defScope st)) (hcd : fd.code = cdv)
    (hb : ∀ (A : Around) (outer : List PySem.Env) (s : Shared) (H : Hp) (E : XK), A.guards = some [] → Room k (A.deeper (envOfC qual (defScope st) s.heap.objs.size f cdv)) →
      SB (cxOf (L2.CX P w) P w K mg base N qual (defScope st) f cdv A outer s H E) T (WN E) (defBody st) body) : FnG P w K mg base (L2.CX P w) (k + 1) f fd ps (spM T ps.length (mFn N.length body)) := by
  obtain ⟨oc, od, kV, doc, pm, an, cdv', ct, osl, rfl, lk, hcd'⟩ := F.ex
  cases hcd
  refine ⟨fun vs H Q E h => h.1, fun A outer s H g us vs Q E gd hr e0 hbt rv h => ?_⟩
  refine LamX.run_ofS (k := k) lk hcd' S hr e0 hbt rv h.1 fun hr' => ?_
  refine ⟨_, (hb A outer s H E gd hr').ps, ?_⟩
  obtain ⟨_, av, r, m, xs, rv, rm, h⟩ := h
  refine ⟨av, r, _, m, re_start rv, rm, ?_⟩
  unfold mFn at h
  split at h
  · rename_i e' m' hbd
    rw [hbd]
    exact fun r1 H1 σ1 g rm1 re1 => h r1 H1 .non g rm1 rv_non
  · rename_i v m' hbd
    rw [hbd]
    exact fun r1 H1 w g rm1 rv1 => h r1 H1 w g rm1 rv1
  · rename_i c ws e' m' hbd
    rw [hbd]
    exact fun r1 H1 σ1 cls d g rm1 re1 rx => h r1 H1 cls d g rm1 rx
  · exact h.elim
end
/-! ### the law's argument -/
theorem rvs_ns : ∀ ns : List Int, RVs T av r H (ns.map PV.int) (ns.map V.int) := rvs_intsB
/-- nothing is held yet -/
theorem rm_start (hT : LamX.Tabs T.tb H) : RM T (fun _ => False) [] H [] := ⟨rfl, List.nodup_nil, fun i o a h1 => by simp at h1, hT, fun a ha => (ha.elim False.elim fun z => (by cases z)), fun a ha => False.elim ha⟩
/-- the law's def: what its mirror answers, whatever kind of list the script is -/
theorem law_says {mf : MF} {a : Addr} {ns : List Int} (hT : LamX.Tabs T.tb H) (hS : SqL T.K H a (ns.map V.int)) (h1 : ∃ m, mf [.lst (ns.map PV.int)] [] = .ok (.bl true) m) (h2 : ∃ m, mf [.kst (ns.map PV.int)] [] = .ok (.bl true) m) :
    spM T 1 mf [.ref a] H (fun v _ => v = .bl true) (fun _ _ _ => False) := by
  rcases hS with hS | hS
  · obtain ⟨m, h1⟩ := h1
    refine ⟨rfl, fun _ => False, [], [], [.lst (ns.map PV.int)], ?_, rm_start hT, ?_⟩
    · unfold RVs
      refine ⟨_, [], rfl, ?_, by unfold RVs; rfl⟩
      unfold RV
      exact ⟨a, _, rfl, ⟨fun z => z, by simp⟩, hS, rvs_ns ns⟩
    · rw [h1]
      exact fun r1 H1 w g rm1 rv => rv.bl'
  · obtain ⟨m, h2⟩ := h2
    refine ⟨rfl, fun _ => False, [], [], [.kst (ns.map PV.int)], ?_, rm_start hT, ?_⟩
    · unfold RVs
      refine ⟨_, [], rfl, ?_, by unfold RVs; rfl⟩
      unfold RV
      exact ⟨a, _, rfl, hS, rvs_ns ns⟩
    · rw [h2]
      exact fun r1 H1 w g rm1 rv => rv.bl'
end M

namespace M
open PySem PySem.Spec PyProof.Rows L2
variable {X : Cx} {T : Tx} {W : WX} {a b c : Expr} {ma mb mc : ME} {mt mu : MT} {ms mv : MS} {pos : Pos} {st : Stmt} {rest sts : List Stmt}
variable {av av' : Av} {r r' r2 : List Addr} {H H' H2 : Hp} {m m' : Mem}
/-! ### list(range(n)) -/
def upP (n : Nat) : List PV := (List.range n).map fun i => PV.int (i : Nat)
def mLR1 (ma : ME) : MA := fun e m => (ma e m).bind fun x m1 => match x with
  | .int j => if decide (0 ≤ j) && szOk j.toNat then .ok (upP j.toNat) m1 else .bad
  | _ => .bad
theorem rvs_up (n : Nat) : RVs T av r H (upP n) (rgV 0 (n : Int)) := by
  have e1 : upP n = ((List.range n).map fun i => ((i : Nat) : Int)).map PV.int := by unfold upP; rw [List.map_map]; rfl
  have e2 : rgV 0 (n : Int) = ((List.range n).map fun i => ((i : Nat) : Int)).map V.int := by
    unfold rgV
    rw [List.map_map]
    have e3 : ((n : Int) - 0).toNat = n := by omega
    rw [e3]
    refine List.map_congr_left fun i _ => ?_
    show V.int (0 + (i : Int)) = V.int (i : Int)
    rw [Int.zero_add]
  rw [e1, e2]
  exact rvs_intsB _
theorem sf_listRg {p p2 pos2 : Pos} (hc : X.calm = true) (hg : Gl X "list") (hm : X.mg "list" = none) (hg2 : Gl X "range") (hm2 : X.mg "range" = none) (ha : SE X T W a ma)
    (na : starEach [a] X.env = (false, eval a X.env) :: starEach [] X.env := by rfl) (nb : starEach [.Call (.Name "range" p2) [a] [] pos2] X.env = (false, eval (.Call (.Name "range" p2) [a] [] pos2) X.env) :: starEach [] X.env := by rfl) :
    SF X T W (.Call (.Name "list" p) [.Call (.Name "range" p2) [a] [] pos2] [] pos) (mLR1 ma) :=
  ⟨PE.imp (pe_listRg hc hg hm (prg_1 hg2 hm2 ha.pe na) nb) fun σ H Q ⟨av, r, e, m, re, rm, h⟩ =>
    ⟨av, r, e, m, re, rm, okR_imp (okR_bind h) fun x m1 h r1 H1 v g1 rm1 rv => by
      split at h
      · rename_i j
        split at h
        · rename_i hj
          rw [Bool.and_eq_true, decide_eq_true_eq] at hj
          have hz := Nat.le_of_ble_eq_true hj.2
          refine ⟨j, rv.int', RgOk.of_le (by omega) (by omega) (by omega) hj.1, fun q hq => ?_⟩
          have ej : ((j.toNat : Nat) : Int) = j := Int.toNat_of_nonneg hj.1
          have k := rvs_up (T := T) (av := av) (r := r1) (H := H1) j.toNat
          rw [ej] at k
          exact h r1 _ q _ (g1.trans (grow_upd hq)) (g1.none (soft hq)) (rm1.fresh hq) upd_same (rm1.away hq) (k.away hq)
        · exact h.elim
      · exact h.elim⟩⟩
/-! ### room in a suite -/
theorem uns64 {k : Nat} {A : Around} (r : Room (k + 1) A) (env : PySem.Env) (h : Option Value) : ((A.deeper env).mark h).units + 64 < cLine := by
  have q := (r.deeper env).un
  show (A.deeper env).units + 64 < cLine
  omega
theorem FnG.mono {P : Program} {w : World} {K : PySem.W.Frag} {mg : Str → Option Value} {base : Heap} {CX : CXT} {j k : Nat} {f : Addr} {fd : FuncData} {ps : List Str} {sp : Sp} (F : FnG P w K mg base CX j f fd ps sp) (h : j ≤ k) : FnG P w K mg base CX k f fd ps sp :=
  ⟨F.many, fun A outer s H g us vs Q E gd hr => F.go A outer s H g us vs Q E gd (hr.mono h)⟩
end M

/-! enumerate of a tuple -/
namespace PySem
open PySem.Spec
/-- a new enumerate over a tuple's new iterator -/
def tIterO (t : Addr) : Obj := { cls := .type "tuple_iterator", data := .fields #[.ref t, .int 0 0] }
def enumO (i : Addr) : Obj := { cls := .type "enumerate", data := .fields #[.none, .bool false, .ref i, rawInt 0, .none, .none] }
theorem tup_enum_new (t : Addr) (its : Array Value) (ot : Obj) (k1 : ot.cls = .type "tuple") (n : Nat) (k2 : ot.data = .seq its n) :
    Meets (Builtin.«enumerate.__new__» ⟨[.type "enumerate", .ref t], []⟩) (fun _ R s =>
      s.heap.get? t = some ot ∧
      R (.ok (.ret (.ref (s.heap.push (tIterO t)).objs.size)))
        { s with heap := (s.heap.push (tIterO t)).push (enumO s.heap.objs.size) }) := by
  refine .of_wp fun prog w A R s hh => ?_
  obtain ⟨hp, gg, dd, tk, os⟩ := s
  obtain ⟨ht, hr⟩ := hh
  have isT : Heap.IsTuple (Shared.heap ⟨hp, gg, dd, tk, os⟩) t its := ⟨_, ht, k1, n, k2⟩
  have sb := sub_enumerate
  wp_walk using wpAny_loadPart' ht
  refine wpAny_stack_any fun st => wpAny_pure ?_
  split
  · rename_i c _ _ _ _ _
    cases (c == Value.type "enumerate") <;>
    · wp_walk using wpAny_loadPart' ht, wpAny_pyIter_tuple isT
      exact ⟨_, rfl, hr⟩
  · wp_walk using wpAny_loadPart' ht, wpAny_pyIter_tuple isT
    exact ⟨_, rfl, hr⟩
theorem call_enumT {prog : Program} {w : World} {A : Around} {E : Value → Shared → Prop} {s : Shared} {t : Addr} {its : Array Value} {Q : Value → Shared → Prop}
    (isT : s.heap.IsTuple t its)
    (go : ∀ h2, IsEnum h2 (s.heap.objs.size + 1) s.heap.objs.size 0 .none → h2.IsTupleIter s.heap.objs.size t 0 →
      (∀ b o, s.heap.get? b = some o → h2.get? b = some o) → Q (.ref (s.heap.objs.size + 1)) { s with heap := h2 }) :
    wpAny (model prog w) A (call (.type "enumerate") [.ref t]) Q E s := by
  obtain ⟨ot, ht, k1, n, k2⟩ := isT
  refine callType_new F.called_enumerate (by decide) (F.typeCall_enumerate_1 _) (F.newCall_enumerate_1 _)
    (fun obj => F.args_object_init_2 obj _) F.entry_enumerate_new (tup_enum_new t its ot k1 n k2) ⟨ht, ?_⟩
  have z1 : (s.heap.push (tIterO t)).objs.size = s.heap.objs.size + 1 := Heap.size_push ..
  show _ ∧ _
  rw [z1]
  have hen : IsEnum ((s.heap.push (tIterO t)).push (enumO s.heap.objs.size)) (s.heap.objs.size + 1) s.heap.objs.size 0 .none := by
    have q := Heap.get?_push_size (s.heap.push (tIterO t)) (o := enumO s.heap.objs.size) rfl
    rwa [z1] at q
  exact ⟨⟨_, hen, rfl⟩, go _ hen ⟨_, Heap.get?_push_of_some _ (Heap.get?_push_size _ rfl), rfl, rfl⟩
    fun b o y => Heap.get?_push_of_some _ (Heap.get?_push_of_some _ y)⟩
end PySem

namespace M
open PySem PySem.Spec PyProof.Rows L2
/-- the tuple at a, each member with its place in a new pair -/
def IteT (K : PySem.W.Frag) (a : Addr) : It :=
  ⟨fun j H => ∃ (vs : List V) (y : V), SqT K H a vs ∧ vs[j]? = some y,
    fun j H v H2 => ∃ N y, v = .ref N ∧ H N = none ∧ H2 = upd H N (.tup [.int (j : Nat), y]) ∧ ∀ vs, SqT K H a vs → vs[j]? = some y,
    fun j H => ∃ vs : List V, SqT K H a vs ∧ vs.length ≤ j⟩
theorem enum_ne {h : Heap} {a e it : Addr} {i : Int} {j : Nat} {old : Value} {its : Array Value} (he : IsEnum h e it i old) (hi : h.IsTupleIter it a j) (ha : h.IsTuple a its) : a ≠ it ∧ e ≠ a := by
  obtain ⟨oa, ea, ca, _⟩ := ha
  obtain ⟨oi, ei, ci, _⟩ := hi
  refine ⟨fun z => ?_, fun z => ?_⟩
  · rw [z] at ea
    cases ea.symm.trans ei
    rw [ca] at ci
    simp at ci
  · have q := ea.symm.trans (z ▸ he)
    cases q
    simp at ca
theorem turn_enumT {P : Program} {w : World} {K : PySem.W.Frag} {elts : List Expr} {kk : Nat} {tpos : Pos} (a e it : Addr) :
    Turn P w K (.Tuple elts kk tpos) (IteT K a) [e, it] e (fun j h => (∃ old, IsEnum h e it ((j : Nat) : Int) old) ∧ h.IsTupleIter it a j ∧ e ≠ it) where
  mem := List.mem_cons_self
  obj := by
    rintro j h ⟨⟨old, he⟩, ⟨o, ho, hc, hd⟩, _⟩ b hb
    rcases (by simpa using hb : b = e ∨ b = it) with z | z
    · rw [z]; exact ⟨_, he, fun v q => nomatch q⟩
    · rw [z]; exact ⟨o, ho, fun v q => by rw [hd] at q; cases q⟩
  keep := by
    rintro j h h2 ⟨⟨old, he⟩, hi, ne⟩ k
    exact ⟨⟨old, k e (by simp) _ he⟩, hi.at fun o q => k it (by simp) o q, ne⟩
  item := by
    rintro X rfl rfl rfl hc j pins s σ H E I hf ⟨⟨old, he⟩, hi, ne⟩ ⟨vs, y, hq, hy⟩
    obtain ⟨its, rv, p, _⟩ := I.tuple hq
    obtain ⟨u, hu, ru⟩ := rv.get hy
    have p2 : s.heap.IsTuple a its.toArray := p
    obtain ⟨na, nb⟩ := enum_ne he hi p2
    have le : e < s.heap.objs.size := Heap.lt_size he
    have li : it < s.heap.objs.size := by obtain ⟨_, q, _⟩ := hi; exact Heap.lt_size q
    have D := Draws.tuple (prog := X.prog) (w := X.w) (A := X.A.in1) (I.ok.hd hc) it a na its.toArray
    have lj : j < its.toArray.size := by simpa using (List.getElem?_eq_some_iff.mp hu).1
    refine wpAny_pyNext_enum_itemD D he ⟨hi, p2⟩ lj ne (by simp [ne, nb]) fun x h2 tk hx out st2 hT _ hk => ?_
    have xu : x = u := by
      have q : its.toArray[j]? = some u := by simpa using hu
      exact Option.some.inj (hx.symm.trans q)
    subst xu
    refine ⟨_, rfl, wpAny_letOwnedTupleGo_enum (s := { s with heap := h2, toks := tk + 1 }) out fun h3 he3 sb => ?_⟩
    have hT3 := (sb.2 _ (Nat.ne_of_gt le)).trans hT
    have new : ObjOk X.prog X.w (upd H s.heap.objs.size (.tup [.int (j : Nat), y])) h3 s.heap.objs.size (.tup [.int (j : Nat), y]) :=
      ⟨by show 2 ≤ sizeLine; decide, [.int j tk, x], .cons ⟨_, rfl⟩ (.cons ru .nil), ⟨_, hT3, rfl, _, rfl⟩⟩
    have out3 : ∀ b ob, b ∉ [e, it] → s.heap.get? b = some ob → h3.get? b = some ob := fun b ob hb q => by
      have nb : b ≠ e ∧ b ≠ it := by simpa using hb
      exact (sb.2 b nb.1).trans (hk b ob nb.1 nb.2 q)
    have I1 : Inv X pins σ (upd H s.heap.objs.size (.tup [.int (j : Nat), y])) { s with heap := h3, toks := tk + 1 } :=
      I.turnedNew (ch := [e, it]) out3 hf (Nat.le_refl _) new
    refine ⟨.ref s.heap.objs.size, _, I1, rfl, ⟨_, y, rfl, I.hok.fresh (Nat.le_refl _), rfl, fun zs hz => by rw [I.tuple_inj hz hq]; exact hy⟩, ⟨⟨x, ?_⟩, st2.1.at fun o q => (sb.2 it (Ne.symm ne)).trans q, ne⟩, fun b hb => ?_⟩
    · rw [show ((j + 1 : Nat) : Int) = (j : Int) + 1 by omega]
      exact he3
    · have lb : b < s.heap.objs.size := by
        rcases (by simpa using hb : b = e ∨ b = it) with z | z
        · exact z ▸ le
        · exact z ▸ li
      rw [upd_ne (Nat.ne_of_lt lb)]
      exact (hf b hb).1
  done := by
    rintro X rfl rfl rfl hc j pins s σ H E I hf ⟨⟨old, he⟩, hi, ne⟩ ⟨vs, hq, hy⟩
    obtain ⟨its, rv, p, _⟩ := I.tuple hq
    have p2 : s.heap.IsTuple a its.toArray := p
    obtain ⟨na, nb⟩ := enum_ne he hi p2
    have hl := rv.length
    obtain ⟨f0, f1, f2, f3, f4, f5⟩ := hf it (by simp)
    have D : Draws X.prog X.w X.A.in1 it [it, a] j (fun _ _ => True) (fun i h => i = j ∧ h.IsTupleIter it a i ∧ h.IsTuple a its.toArray) :=
      { live := fun _ _ st => let ⟨o, ho, _⟩ := st.2.1; ⟨o, ho⟩
        frame := fun _ _ _ st hk => ⟨st.1, st.2.1.at fun o q => hk it (by simp) o q, st.2.2.at fun o q => hk a (by simp) o q⟩
        item := fun i s Q E lt st => absurd st.1 (Nat.ne_of_lt lt)
        done := fun s Q E st go => wpAny_nextOf_tuple_end (I.ok.hd hc) st.2.1 st.2.2 (by simp; omega) go }
    exact wpAny_pyNext_enum_endD D he ⟨rfl, hi, p2⟩ fun h2 eb =>
      ⟨rfl, I.turned (t' := s.toks) (fun b o hb q => eb b o hb q) f0 f1 f3 f4 f5⟩
  self := fun A j s Q E st h => by
    obtain ⟨⟨old, he⟩, _⟩ := st
    exact wpAny_pyIter_enum he h
def iEnumT (K : PySem.W.Frag) (ta : TA) : TI := fun σ H R => ta σ H fun us H1 => ∃ a vs, us = [.ref a] ∧ SqT K H1 a vs ∧ R (IteT K a) H1
theorem pi_enumT {X : Cx} {a : Expr} {ta : TA} {p pos tpos : Pos} {elts : List Expr} {kk : Nat} (hg : Gl X "enumerate") (hm : X.mg "enumerate" = none) (ha : PA X [a] ta)
    (one : starEach [a] X.env = [(false, eval a X.env)] := by rfl) : PI X (.Tuple elts kk tpos) (.Call (.Name "enumerate" p) [a] [] pos) (iEnumT X.K ta) := by
  refine ⟨fun pins s σ H R I h => Call_ (ld_blt I hg hm boot_enumerate (PyProof.Rows.callWith_type1 (thn (ha.run pos pins s σ H _ I h) ?_) one rfl))⟩
  rintro us s1 ⟨ws, H1, I1, r1, b, vs, rfl, hq, q⟩
  obtain ⟨u, ul, r2, r3, e1⟩ : ∃ u ul, RelV (.ref b) u ∧ ul = [] ∧ us = u :: ul := by
    cases r1 with
    | cons r rr => cases rr; exact ⟨_, _, r, rfl, rfl⟩
  subst r3
  subst e1
  cases r2
  obtain ⟨its, rv, p', _⟩ := I1.tuple hq
  refine call_enumT (show s1.heap.IsTuple b its.toArray from p') fun h2 he hi hk => wpAny_pyIter_enum he ?_
  have I2 : Inv X pins σ H1 { s1 with heap := h2 } := I1.kept (t' := s1.toks) hk
  refine ⟨s1.heap.objs.size + 1, [s1.heap.objs.size + 1, s1.heap.objs.size], _, _, H1, rfl, I2, turn_enumT b (s1.heap.objs.size + 1) s1.heap.objs.size, ⟨⟨.none, he⟩, hi, Nat.succ_ne_self _⟩, fun x hx => ?_, q⟩
  have lx : s1.heap.objs.size ≤ x := by
    rcases (by simpa using hx : x = s1.heap.objs.size + 1 ∨ x = s1.heap.objs.size) with z | z
    · rw [z]; exact Nat.le_add_right _ _
    · rw [z]; exact Nat.le_refl _
  exact I1.fpOk lx (I1.hok.fresh lx)

variable {T : Tx} {av av' : Av} {r r' r2 : List Addr} {H H' H2 : Hp} {X : Cx} {W : WX} {a : Expr} {pos : Pos}
theorem iok_enumT (hK : X.K = T.K) {xs : List PV} {v : V} (h : RV T av r H (.tup xs) v) : ∃ a vs, v = .ref a ∧ SqT X.K H a vs ∧ IOk T av r H (enI xs) (IteT X.K a) := by
  have h0 := h
  obtain ⟨a, vs, rfl, ha, hv⟩ := tup_ok hK h
  refine ⟨a, vs, rfl, ha, fun av' r' H' m' i hw g rm => ?_⟩
  obtain ⟨a', vs', e, ha', hv'⟩ := tup_ok hK ((h0.widen hw).growA g)
  cases e
  show match enI xs m' i with
    | none => True
    | some none => _
    | some (some x) => _
  unfold enI
  cases q : xs[i]? with
  | none => exact ⟨vs', ha', by rw [hv'.length]; exact List.getElem?_eq_none_iff.mp q⟩
  | some x =>
    obtain ⟨w, hw', rw'⟩ := hv'.get q
    refine ⟨⟨vs', w, ha', hw'⟩, fun v H2 y => ?_⟩
    obtain ⟨p, z, rfl, hp, rfl, hz⟩ := y
    have e : z = w := Option.some.inj ((hz vs' ha').symm.trans hw')
    subst e
    refine ⟨r', grow_upd hp, (rm.pass hp), rv_newT rm hp ?_⟩
    unfold RVs
    exact ⟨_, _, rfl, rv_int, by unfold RVs; exact ⟨_, [], rfl, rw', by unfold RVs; rfl⟩⟩
/-- of a tuple -/
def mIEt (mr : MA) : Env → Mem → Res MI := fun e m => (mr e m).bind fun vs m1 => match vs with
  | [.tup xs] => .ok (enI xs) m1
  | _ => .bad
theorem si_enumT (hK : X.K = T.K) {mr : MA} {elts : List Expr} {kk : Nat} {p tpos : Pos} (hg : Gl X "enumerate") (hm : X.mg "enumerate" = none) (ha : SA X T W [a] mr) (hs : starEach [a] X.env = [(false, eval a X.env)] := by rfl) : SI X T W (.Tuple elts kk tpos) (.Call (.Name "enumerate" p) [a] [] pos) (mIEt mr) :=
  ⟨PI.imp (pi_enumT hg hm ha.pa hs) fun σ H R ⟨av, r, e, m, re, rm, h⟩ => ⟨av, r, e, m, re, rm, okR_imp (okR_bind h) fun vs m1 h r1 H1 ws g1 rm1 rv => by
    split at h
    · obtain ⟨v, rfl, hv⟩ := rvs1 rv
      obtain ⟨p, us, rfl, hp, iok⟩ := iok_enumT (X := X) hK hv
      exact ⟨p, us, rfl, hp, h r1 H1 _ g1 rm1 iok⟩
    · exact h.elim⟩⟩
/-- a module's constant of the written part -/
theorem se_gval {x : Str} {u : Value} {p : PV} (hg : Gl X x) (hm : X.mg x = some u) (hr : ∃ v, RelV v u ∧ ∀ av r H, RV T av r H p v) (hd : (x == ("__debug__" : Str)) = false := by decide) : SE X T W (.Name x pos) (mC p) :=
  let ⟨_, h1, h2⟩ := hr
  se_const (pe_glob hg hm h1 hd) h2
end M

/-! what a top's facts give: an error's __init__, isinstance, constants, the law's end -/
namespace M
open PySem PySem.Spec PyProof.Rows L2
section
variable {X : Cx} {e : Expr} {es : List Expr} {ta : TA} {p1 p2 pos : Pos}
/-- Base.__init__(self, ..), Base an own error without an __init__ of its own -/
theorem pe_binit {pl : Sem Bool} {x : Str} {B : Addr} (hg : Gl X x) (hm : X.mg x = some (.ref B)) (sg : PySem.W.specialIn X.K (.ref B) "__getattribute__" = some (some (.builtin "type.__getattribute__")))
    (ty : PySem.W.typeIn X.K (.ref B) = some (.type "type")) (rd : PySem.W.readsIn X.K B (.type "type") = true)
    (fc : PySem.W.findCls X.K (.ref B) (.type "type") "__init__" = some (.val (.builtin "ValueError.__init__"))) (ha : PA X (e :: es) ta)
    (ev : eval (.Call (.Attribute (.Name x p1) "__init__" p2) (e :: es) [] pos) X.env =
      (do let ob ← eval (.Name x p1) X.env
          standAt p2.atName
          let (g, one) ← holding [ob] (getMethod ob "__init__" pl)
          callWith pos g one (backTo pos (starEach (e :: es) X.env)) (backToKw pos (keywordEach [] X.env))) := by rfl)
    (se : starEach (e :: es) X.env = (false, eval e X.env) :: starEach es X.env := by rfl)
    (sp : (backTo pos (starEach es X.env)).any (·.1) = false := by rfl) (hd : (x == ("__debug__" : Str)) = false := by decide) :
    PE X (.Call (.Attribute (.Name x p1) "__init__" p2) (e :: es) [] pos) (tVeI X.K ta) := by
  constructor
  intro pins s σ H Q I h
  refine PySem.W.methodCall_KW (ld_glob I hg hm ?_ hd) ev
  obtain ⟨m, fr⟩ := I.fr
  refine PySem.W.method_of_cls fr I.ok.mod.kin sg ?_
  refine PySem.W.cls_val fr I.ok.mod.kin ty rd fc (by decide +kernel) ?_
  refine PyProof.Rows.callWith_method1 (thn (ha.run pos pins _ σ H _ (I.tok _) h) ?_) se sp
  rintro us s1 ⟨vs, H1, I1, r1, a, C, ws, rfl, hl, TC, ea, q⟩
  cases r1 with
  | @cons _ u0 _ ur ra rr =>
    obtain rfl : u0 = Value.ref a := ra
    have len : ur.length ≤ sizeLine := by
      have z := Paired.length rr
      rw [sizeLine_eq, ← z]
      omega
    exact oinit_ok TC I1 ea len fun s' J => ⟨.non, H1, J, rfl, q⟩
end
/-! ### constants of the written part -/
mutual
/-- u is the plain value, all of it written -/
def kvOk (K : PySem.W.Frag) : PV → Value → Bool
  | .non, .none => true
  | .bl b, .bool c => b == c
  | .int i, .int j _ => decide (i = j)
  | .str s, .str t _ => decide (s = t)
  | .tup xs, .ref a => match K.lookup a with
    | some o => match o.data with
      | .seq its _ => (o.cls == .type "tuple") && decide (its.size ≤ sizeLine) && kvsOk K xs its.toList
      | _ => false
    | none => false
  | _, _ => false
def kvsOk (K : PySem.W.Frag) : List PV → List Value → Bool
  | [], [] => true
  | x :: xs, u :: us => kvOk K x u && kvsOk K xs us
  | _, _ => false
end
section
variable {T : Tx}
mutual
theorem kv_of (ht : T.kt = true) : ∀ (p : PV) (u : Value), kvOk T.K p u = true → ∃ v, RelV v u ∧ ∀ av r H, RV T av r H p v
  | .non, .none, _ => ⟨.non, rfl, fun _ _ _ => by unfold RV; rfl⟩
  | .bl b, .bool c, h => ⟨.bl b, by unfold kvOk at h; rw [beq_iff_eq.mp h]; rfl, fun _ _ _ => by unfold RV; rfl⟩
  | .int i, .int j t, h => ⟨.int i, by unfold kvOk at h; rw [of_decide_eq_true h]; exact ⟨t, rfl⟩, fun _ _ _ => by unfold RV; rfl⟩
  | .str s, .str x t, h => ⟨.str s, by unfold kvOk at h; rw [of_decide_eq_true h]; exact ⟨t, rfl⟩, fun _ _ _ => by unfold RV; rfl⟩
  | .tup xs, .ref a, h => by
    unfold kvOk at h
    split at h
    · rename_i o ho
      split at h
      · rename_i its n hd
        simp only [Bool.and_eq_true, decide_eq_true_eq, beq_iff_eq] at h
        obtain ⟨⟨hc, hz⟩, hs⟩ := h
        obtain ⟨vs, h1, h2⟩ := kvs_of ht xs its.toList hs
        exact ⟨.ref a, rfl, fun av r H => by unfold RV; exact ⟨a, vs, rfl, .inr ⟨ht, o, its, n, ho, hc, hd, hz, h1⟩, h2 av r H⟩⟩
      · cases h
    · cases h
theorem kvs_of (ht : T.kt = true) : ∀ (ps : List PV) (us : List Value), kvsOk T.K ps us = true → ∃ vs, Vals vs us ∧ ∀ av r H, RVs T av r H ps vs
  | [], [], _ => ⟨[], .nil, fun _ _ _ => by unfold RVs; rfl⟩
  | p :: ps, u :: us, h => by
    unfold kvsOk at h
    rw [Bool.and_eq_true] at h
    obtain ⟨v, h1, h2⟩ := kv_of ht p u h.1
    obtain ⟨vs, h3, h4⟩ := kvs_of ht ps us h.2
    exact ⟨v :: vs, .cons h1 h3, fun av r H => by unfold RVs; exact ⟨v, vs, rfl, h2 av r H, h4 av r H⟩⟩
end
end

/-! ### isinstance: a table -/
def isTab (own : List Nat) (tab : List (Nat × List Nat)) (k t : Nat) : Option Bool := match tab.lookup k with
  | some l => if t < 7 || own.contains t then some (l.contains t) else none
  | none => none
/-- the own class c -/
structure InsK (K : PySem.W.Frag) (C : Addr) : Prop where
  cl : Cls K C
  ha : PySem.W.findIn K (.ref C) "__class__" = some (some (.builtin "object.__class__"))
  hn : PySem.W.specialIn K (.builtin "object.__class__") "__get__" = some (some (.builtin "getset_descriptor.__get__"))
  htk : PySem.W.takesIn K (.builtin "object.__class__") = some true
  hm : PySem.W.mroIn K C (.type "object") = some true
def isiChk (K : PySem.W.Frag) (cA : Nat → Addr) (own : List Nat) (tab : List (Nat × List Nat)) (us : Nat → Value) : Bool :=
  tab.all fun kl => (List.range 7).all (fun t => PySem.W.kitOne K (.type (tagN t)) (us kl.1) == some (kl.2.contains t)) &&
    own.all fun o => PySem.W.kitOne K (.ref (cA (o - 10))) (us kl.1) == some (kl.2.contains o)
theorem lookup_mem {k : Nat} {l : List Nat} : ∀ {tab : List (Nat × List Nat)}, tab.lookup k = some l → (k, l) ∈ tab
  | [], h => by simp at h
  | (j, m) :: tab, h => by
    rw [List.lookup_cons] at h
    split at h
    · rename_i q
      cases h
      rw [beq_iff_eq.mp q]
      exact List.mem_cons_self
    · exact List.mem_cons_of_mem _ (lookup_mem h)
theorem isi_of {X : Cx} {T : Tx} {own : List Nat} {tab : List (Nat × List Nat)} {us : Nat → Value} (h10 : ∀ o ∈ own, 10 ≤ o) (hc : ∀ kl ∈ tab, ClsV (T.g kl.1) (us kl.1)) (hI : ∀ o ∈ own, InsK X.K (T.cA (o - 10)))
    (self : ∀ o ∈ own, PySem.W.kitOne X.K (.ref (T.cA (o - 10))) (.ref (T.cA (o - 10))) = some true) (hk : isiChk X.K T.cA own tab us = true) : IsiOk X T (isTab own tab) := by
  constructor
  intro k t b h
  unfold isTab at h
  split at h
  · rename_i l hl
    have hm := lookup_mem hl
    have q := List.all_eq_true.mp hk _ hm
    rw [Bool.and_eq_true] at q
    obtain ⟨q1, q2⟩ := q
    split at h
    · rename_i ht
      cases h
      refine ⟨us k, hc _ hm, fun lt => ?_, fun c e => ?_⟩
      · have t7 : t < 7 := by
          rcases Bool.or_eq_true _ _ ▸ ht with z | z
          · exact of_decide_eq_true z
          · rw [List.contains_iff_mem] at z
            have := h10 t z
            omega
        exact beq_iff_eq.mp (List.all_eq_true.mp q1 t (List.mem_range.mpr t7))
      · have hmo : t ∈ own := by
          rcases Bool.or_eq_true _ _ ▸ ht with z | z
          · have := of_decide_eq_true z
            omega
          · rwa [List.contains_iff_mem] at z
        have ec : t - 10 = c := by omega
        have I := hI t hmo
        have q3 := beq_iff_eq.mp (List.all_eq_true.mp q2 t hmo)
        have s3 := self t hmo
        rw [ec] at I q3 s3
        exact ⟨⟨I.cl, I.ha, I.hn, I.htk, I.hm, s3⟩, q3⟩
    · cases h
  · cases h

/-! ### errors apart -/
def aptChk (K : PySem.W.Frag) (cs : List Addr) : Bool := (List.range cs.length).all fun i => (List.range cs.length).all fun j => PySem.W.exmOne K (.ref (cs.getD i 0)) (.ref (cs.getD j 0)) == some (i == j)
theorem apart_of {T : Tx} {cs : List Addr} {n : Nat} (hn : cs.length = n) (h : aptChk T.K cs = true) (e : ∀ i, i < n → T.cA i = cs.getD i 0) : Apart T n := fun c c' hc hc' => by
  have q := List.all_eq_true.mp (List.all_eq_true.mp h c (List.mem_range.mpr (by omega))) c' (List.mem_range.mpr (by omega))
  rw [e c hc, e c' hc']
  exact beq_iff_eq.mp q
/-! ### a def of which is known that no repr is under way, with a memory of its own -/
section
variable {X : Cx} {T : Tx} {E : XK} {k n : Nat} {f : Addr} {fd : FuncData} {ps : List Str} {mf : MF} {x : Str} {a : Expr} {es : List Expr} {mr : MA} {p pos : Pos}
theorem se_callGP (F : FnG X.prog X.w X.K X.mg X.base (L2.CX X.prog X.w) k f fd ps (spM T n mf)) (gd : X.A.guards = some []) (hr : Room k X.A) (hg : Gl X x) (hm : X.mg x = some (.ref f)) (hk : PySem.W.keepIn X.K (.ref f) = true) (hb : Binds X.K fd ps []) (tk : Takes X (WN E)) (ha : SA X T (WN E) (a :: es) mr)
    (hdb : (x == ("__debug__" : Str)) = false := by decide) (he : starEach (a :: es) X.env = (false, eval a X.env) :: starEach es X.env := by rfl) (hpl : (backTo pos (starEach es X.env)).any (·.1) = false := by rfl) :
    SE X T (WN E) (.Call (.Name x p) (a :: es) [] pos) (mCallP n mf mr) :=
  ⟨PE.imp (pe_callG F gd hr hg hm hk hb (passes_call tk (fun _ _ _ _ h => h)) ha.pa hdb he hpl) fun σ H Q ⟨av, r, e, m, re, rm, h⟩ =>
    ⟨av, r, e, m, re, rm, okR_imp (okR_bind h) fun xs m1 h r1 H1 vs g1 rm1 rv1 => sp_callP rm1 rv1 (okR_grow g1 (fun _ _ q => KE.grow g1 q) h)⟩⟩
end
/-! ### a def's record -/
def fdOf (x q : Str) (st : Stmt) (kV doc pm : Value) (an : Option Addr) (cd ct : Value) : FuncData := PySem.W.fnOf x q (defArgs st) (defBody st) (defScope st) .none kV doc pm an cd ct
end M

/-! bits, truth, None, sums -/
namespace M
open PySem PySem.Spec PyProof.Rows L2
variable {X : Cx} {T : Tx} {W : WX} {a b c : Expr} {ma mb mc : ME} {mt mu : MT} {pos : Pos}
variable {av av' : Av} {r r' r2 : List Addr} {H H' H2 : Hp} {m m' : Mem}
def fOrI := fI (fun _ _ => true) fun i j => .int (Builtin.bitOr i j)
def fAndI := fI (fun _ _ => true) fun i j => .int (Builtin.bitAnd i j)
def fXorI := fI (fun _ _ => true) fun i j => .int (Builtin.bitXor i j)
theorem om_orI : OpM X T (binaryOp .BitOr) fOrI := opm_I0 op_or fun _ _ _ _ _ => rv_int
theorem om_andI : OpM X T (binaryOp .BitAnd) fAndI := opm_I0 op_and fun _ _ _ _ _ => rv_int
theorem om_xorI : OpM X T (binaryOp .BitXor) fXorI := opm_I0 op_xor fun _ _ _ _ _ => rv_int
def fShlI := fI (fun i j => decide (0 ≤ j) && decide (((i.natAbs.log2 + 1 : Nat) : Int) + j ≤ 2 ^ 20)) fun i j => .int (i * 2 ^ j.toNat)
theorem om_shlI : OpM X T (binaryOp .LShift) fShlI := opm_I op_shlW (fun i j h => by
  rw [Bool.and_eq_true, decide_eq_true_eq, decide_eq_true_eq] at h
  refine ⟨h.1, Int.le_trans (Int.add_le_add_right (Int.ofNat_le.mpr (bits_le i)) _) (Int.le_trans h.2 (by decide))⟩) fun _ _ _ _ _ => rv_int
def fInv : PV → Option PV
  | .int i => some (.int (Builtin.bitNot i))
  | _ => none
theorem se_inv (ha : SE X T W a ma) : SE X T W (.UnaryOp .Invert a pos) (mUn fInv ma) :=
  ⟨PE.imp (pe_un un_inv ha.pe) fun σ H Q ⟨av, r, e, m, re, rm, h⟩ =>
    ⟨av, r, e, m, re, rm, okR_imp (okR_bind h) fun x m1 h r1 H1 v g1 rm1 rv => by
      obtain ⟨z, hz, k⟩ := okR_oP h
      unfold fInv at hz
      split at hz
      · cases hz
        exact ⟨_, rv.int', k r1 H1 _ g1 rm1 rv_int⟩
      · cases hz⟩⟩
/-! ### x is None -/
def nonP : PV → Option Bool
  | .non => some true
  | .bl _ => some false
  | .int _ => some false
  | .str _ => some false
  | .tup _ => some false
  | .lst _ => some false
  | .kst _ => some false
  | .ins _ _ => some false
  | .dct _ _ => some false
  | .dtt _ _ => some false
  | .ref _ => some false
  | .exn _ _ => some false
  | .glo _ => none
theorem nonP_ok {x : PV} {v : V} {k : Bool} (rv : RV T av r H x v) (h : nonP x = some k) : decide (v = .non) = k := by
  cases x <;> simp only [nonP] at h <;> cases h <;> unfold RV at rv
  · subst rv; rfl
  · subst rv; rfl
  · subst rv; rfl
  · subst rv; rfl
  · obtain ⟨_, _, rfl, _⟩ := rv; rfl
  · obtain ⟨_, _, rfl, _⟩ := rv; rfl
  · obtain ⟨_, _, _, rfl, _⟩ := rv; rfl
  · obtain ⟨_, _, rfl, _⟩ := rv; rfl
  · obtain ⟨_, _, rfl, _⟩ := rv; rfl
  · obtain ⟨_, _, rfl⟩ := rv; rfl
  · obtain ⟨_, _, _, _, rfl, _⟩ := rv; rfl
  · obtain ⟨_, _, rfl, _⟩ := rv; rfl
def fIsN (neg : Bool) : PV → PV → Mem → Option PV := fun x y _ => match y with
  | .non => match nonP x with
    | some k => some (.bl (neg != k))
    | none => none
  | _ => none
theorem om_isN : OpM X T (compareOp .Is) (fIsN false) := by
  refine ⟨_, op_isN, fun {av r H m x y z v w Q} rm rv rw e k => ?_⟩
  unfold fIsN at e
  split at e
  · split at e
    · rename_i b hb
      cases e
      unfold RV at rw
      refine ⟨rw, ?_⟩
      rw [nonP_ok rv hb]
      exact k r H _ .refl rm (by simpa using rv_bl)
    · cases e
  · cases e
theorem om_notN : OpM X T (compareOp .IsNot) (fIsN true) := by
  refine ⟨_, op_notN, fun {av r H m x y z v w Q} rm rv rw e k => ?_⟩
  unfold fIsN at e
  split at e
  · split at e
    · rename_i b hb
      cases e
      unfold RV at rw
      refine ⟨rw, ?_⟩
      rw [nonP_ok rv hb]
      exact k r H _ .refl rm (by simpa using rv_bl)
    · cases e
  · cases e
/-! ### truth -/
def truP (x : PV) (m : Mem) : Option Bool := match x with
  | .non => some false
  | .bl k => some k
  | .int i => some (i != 0)
  | .str s => if szOk s.length then some ((s.length : Int) != 0) else none
  | .tup xs => some (!xs.isEmpty)
  | .kst xs => some (!xs.isEmpty)
  | x => match lstOf x m with
    | some xs => some (!xs.isEmpty)
    | none => none
theorem rvs_empty {xs : List PV} {vs : List V} (h : RVs T av r H xs vs) : vs.isEmpty = xs.isEmpty := by
  have q := h.length
  cases xs <;> cases vs <;> simp at q <;> rfl
theorem truP_ok (hK : X.K = T.K) {x : PV} {v : V} {k : Bool} (rm : RM T av r H m) (rv : RV T av r H x v) (h : truP x m = some k) : TruV X.K v H k := by
  unfold truP at h
  split at h
  · cases h; unfold RV at rv; subst rv; rfl
  · cases h; unfold RV at rv; subst rv; rfl
  · cases h; unfold RV at rv; subst rv; rfl
  · split at h
    · rename_i hz
      cases h; unfold RV at rv; subst rv
      exact ⟨szOk_le hz, rfl⟩
    · cases h
  · cases h
    obtain ⟨a, vs, rfl, ha, hv⟩ := tup_ok hK rv
    exact .inr (.inl ⟨vs, ha, by rw [rvs_empty hv]⟩)
  · cases h
    obtain ⟨a, vs, rfl, ha, hv⟩ := kst_ok hK rv
    exact .inl ⟨vs, ha, by rw [rvs_empty hv]⟩
  · split at h
    · rename_i xs hx
      cases h
      obtain ⟨a, vs, rfl, ha, hv⟩ := lstOf_ok rm rv hx
      exact .inl ⟨vs, .inl ha, by rw [rvs_empty hv]⟩
    · cases h
def mTru (me : ME) : MT := fun e m => (me e m).bind fun v m1 => oP (truP v m1) m1
theorem st_tru (hK : X.K = T.K) (ha : SE X T W a ma) (he : ∀ whole, isTrue a X.env whole = (do let v ← whole; standAt a.pos; holding [v] (truthy v)) := by intro _; rfl) : ST X T W a (mTru ma) :=
  ⟨PT.imp (pt_truth ha.pe he) fun σ H Q ⟨av, r, e, m, re, rm, h⟩ =>
    ⟨av, r, e, m, re, rm, okR_imp (okR_bind h) fun x m1 h r1 H1 v g1 rm1 rv => by
      obtain ⟨z, hz, k⟩ := okR_oP h
      exact ⟨z, truP_ok hK rm1 rv hz, k r1 H1 g1 rm1⟩⟩⟩
/-! ### bit_length -/
def mBitL (mo : ME) : ME := fun e m => (mo e m).bind fun x m1 => match x with
  | .int i => .ok (.int (Builtin.Int.intBits i : Nat)) m1
  | _ => .bad
theorem se_bitL {apos : Pos} (ho : SE X T W a ma) (hbase : attributeBase a "bit_length" X.env (eval a X.env) = eval a X.env := by rfl) (hline : (apos.endLine == pos.line) = true := by rfl) : SE X T W (.Call (.Attribute a "bit_length" apos) [] [] pos) (mBitL ma) :=
  ⟨PE.imp (pe_bits ho.pe hbase hline) fun σ H Q ⟨av, r, e, m, re, rm, h⟩ =>
    ⟨av, r, e, m, re, rm, okR_imp (okR_bind h) fun x m1 h r1 H1 v g1 rm1 rv => by
      split at h
      · exact ⟨_, rv.int', h r1 H1 _ g1 rm1 rv_int⟩
      · exact h.elim⟩⟩
/-! ### sum -/
def cSum : List PV → Mem → Option PV
  | [x], m => match lstOf x m with
    | some xs => match intsOf xs with
      | some ns => some (.int ns.sum)
      | none => none
    | none => none
  | _, _ => none
theorem cm_sum (hc : X.calm = true) : ClM X T (.builtin "sum") cSum := by
  refine ⟨_, cr_sum hc, fun {av r H m xs z vs Q} rm rv e k => ?_⟩
  unfold cSum at e
  split at e
  · split at e
    · rename_i xs hx
      split at e
      · rename_i ns hn
        cases e
        obtain ⟨v, rfl, h⟩ := rvs1 rv
        obtain ⟨a, vs, rfl, ha, hv⟩ := lstOf_ok rm h hx
        rw [intsOf_eq hn] at hv
        rw [rvs_ints hv] at ha
        exact ⟨a, ns, rfl, .inl ha, k r H _ .refl rm rv_int⟩
      · cases e
    · cases e
  · cases e
end M

/-! zip of two, each a list or a tuple -/
namespace M
open PySem PySem.Spec PyProof.Rows L2
/-- true: a tuple, false: a list -/
def SqB (K : PySem.W.Frag) (H : Hp) (t : Bool) (a : Addr) (vs : List V) : Prop := if t = true then SqT K H a vs else SqL K H a vs
def ItB (h : Heap) (t : Bool) (it a : Addr) (i : Nat) : Prop := if t = true then h.IsTupleIter it a i else h.IsListIter it a i
def IsB (h : Heap) (t : Bool) (a : Addr) (its : Array Value) : Prop := if t = true then h.IsTuple a its else h.IsList a its
theorem ItB.cls {h : Heap} {t : Bool} {it a : Addr} {i : Nat} (x : ItB h t it a i) : ∃ o, h.get? it = some o ∧ (o.cls = .type "tuple_iterator" ∨ o.cls = .type "list_iterator") ∧ ∃ u, o.data = .fields u := by
  cases t
  · obtain ⟨o, e, c, d⟩ := (show h.IsListIter it a i from x)
    exact ⟨o, e, .inr c, _, d⟩
  · obtain ⟨o, e, c, d⟩ := (show h.IsTupleIter it a i from x)
    exact ⟨o, e, .inl c, _, d⟩
theorem IsB.cls {h : Heap} {t : Bool} {a : Addr} {its : Array Value} (x : IsB h t a its) : ∃ o, h.get? a = some o ∧ (o.cls = .type "tuple" ∨ o.cls = .type "list") ∧ ∃ n, o.data = .seq its n := by
  cases t
  · obtain ⟨o, e, c, n, d⟩ := (show h.IsList a its from x)
    exact ⟨o, e, .inr c, n, d⟩
  · obtain ⟨o, e, c, n, d⟩ := (show h.IsTuple a its from x)
    exact ⟨o, e, .inl c, n, d⟩
theorem ItB.keep {h h2 : Heap} {t : Bool} {it a : Addr} {i : Nat} (x : ItB h t it a i) (k : ∀ o, h.get? it = some o → h2.get? it = some o) : ItB h2 t it a i := by
  cases t
  · exact (show h.IsListIter it a i from x).at k
  · exact (show h.IsTupleIter it a i from x).at k
theorem IsB.keep {h h2 : Heap} {t : Bool} {a : Addr} {its : Array Value} (x : IsB h t a its) (k : ∀ o, h.get? a = some o → h2.get? a = some o) : IsB h2 t a its := by
  cases t
  · exact (show h.IsList a its from x).at k
  · exact (show h.IsTuple a its from x).at k
theorem itB_ne {h : Heap} {t : Bool} {it a : Addr} {i : Nat} {t2 : Bool} {b : Addr} {its : Array Value} (x : ItB h t it a i) (y : IsB h t2 b its) : b ≠ it := fun z => by
  obtain ⟨o, e, _, u, d⟩ := x.cls
  obtain ⟨o2, e2, _, n, d2⟩ := y.cls
  rw [z] at e2
  cases e.symm.trans e2
  rw [d] at d2
  cases d2
/-- an iterator that stands at i, as something that is drawn -/
theorem src_draws {prog : Program} {w : World} {A : Around} (hh : A.handled = none) {h : Heap} {t : Bool} {it a : Addr} {its : Array Value} {i : Nat} (x : ItB h t it a i) (y : IsB h t a its) :
    ∃ (n : Nat) (P : Nat → Value → Prop) (St : Nat → Heap → Prop), Draws prog w A it [it, a] n P St ∧ St i h ∧ i ≤ n ∧ (its.size ≤ i → i = n) ∧ (i < its.size → i < n) ∧ (∀ v, P i v → its[i]? = some v) ∧ ∀ h2, St (i + 1) h2 → ItB h2 t it a (i + 1) := by
  have ne : a ≠ it := itB_ne x y
  by_cases lt : i < its.size
  · cases t
    · exact ⟨_, _, _, Draws.list hh it a ne its, ⟨x, y⟩, Nat.le_of_lt lt, fun q => absurd lt (Nat.not_lt.mpr q), id, fun v q => q, fun h2 q => q.1⟩
    · exact ⟨_, _, _, Draws.tuple hh it a ne its, ⟨x, y⟩, Nat.le_of_lt lt, fun q => absurd lt (Nat.not_lt.mpr q), id, fun v q => q, fun h2 q => q.1⟩
  · have no : its[i]? = none := by simp; omega
    refine ⟨i, fun _ _ => False, fun j h2 => j = i ∧ ItB h2 t it a j ∧ IsB h2 t a its, ?_, ⟨rfl, x, y⟩, Nat.le_refl _, fun _ => rfl, fun q => absurd q lt, fun v q => q.elim, fun h2 q => absurd q.1 (Nat.succ_ne_self _)⟩
    constructor
    · rintro j h2 ⟨_, q, _⟩
      obtain ⟨o, e, _⟩ := q.cls
      exact ⟨o, e⟩
    · rintro j h2 h3 ⟨e, q1, q2⟩ hk
      exact ⟨e, q1.keep fun o z => hk it (by simp) o z, q2.keep fun o z => hk a (by simp) o z⟩
    · rintro j s Q E lt2 ⟨e, _⟩
      exact absurd e (Nat.ne_of_lt lt2)
    · rintro s Q E ⟨_, q1, q2⟩ go
      cases t
      · exact wpAny_nextOf_list_end hh q1 q2 no go
      · exact wpAny_nextOf_tuple_end hh q1 q2 no go
/-- two at a and b, as they stand at each turn, their members in new pairs -/
def Itzz (K : PySem.W.Frag) (t u : Bool) (a b : Addr) : It :=
  ⟨fun j H => ∃ (vs ws : List V) (x y : V), SqB K H t a vs ∧ SqB K H u b ws ∧ vs[j]? = some x ∧ ws[j]? = some y,
    fun j H v H2 => ∃ N x y, v = .ref N ∧ H N = none ∧ H2 = upd H N (.tup [x, y]) ∧ (∀ vs, SqB K H t a vs → vs[j]? = some x) ∧ ∀ ws, SqB K H u b ws → ws[j]? = some y,
    fun j H => ∃ vs ws : List V, SqB K H t a vs ∧ SqB K H u b ws ∧ (vs.length ≤ j ∨ ws.length ≤ j)⟩
theorem sqb_at {X : Cx} {pins : List (Addr × Obj)} {σ : L2.St} {H : Hp} {s : Shared} {t : Bool} {a : Addr} {vs : List V} (I : Inv X pins σ H s) (h : SqB X.K H t a vs) : ∃ its : List Value, Vals vs its ∧ IsB s.heap t a its.toArray := by
  cases t
  · obtain ⟨its, rv, p, _⟩ := I.list (show SqL X.K H a vs from h)
    exact ⟨its, rv, p.isList⟩
  · obtain ⟨its, rv, p, _⟩ := I.tuple (show SqT X.K H a vs from h)
    exact ⟨its, rv, p⟩
theorem sqb_inj {X : Cx} {pins : List (Addr × Obj)} {σ : L2.St} {H : Hp} {s : Shared} {t : Bool} {a : Addr} {vs ws : List V} (I : Inv X pins σ H s) (h : SqB X.K H t a vs) (h2 : SqB X.K H t a ws) : vs = ws := by
  cases t
  · exact I.list_inj (show SqL X.K H a vs from h) (show SqL X.K H a ws from h2)
  · exact I.tuple_inj (show SqT X.K H a vs from h) (show SqT X.K H a ws from h2)
structure ZApart (z TI TO i1 i2 a b : Addr) : Prop where
  Tz : TI ≠ z
  Oz : TO ≠ z
  IO : TI ≠ TO
  T1 : TI ≠ i1
  T2 : TI ≠ i2
  z1 : z ≠ i1
  z2 : z ≠ i2
  O1 : TO ≠ i1
  O2 : TO ≠ i2
  n12 : i1 ≠ i2
  Oa : TO ≠ a
  Ob : TO ≠ b
theorem five {z TI TO i1 i2 c : Addr} : c ∈ [z, TI, TO, i1, i2] ↔ c = z ∨ c = TI ∨ c = TO ∨ c = i1 ∨ c = i2 := by simp
theorem zip_ne {h : Heap} {t : Bool} {z TI TO a : Addr} {f : Value} {its : Array Value} (hz : IsZip h z TI TO f) (y : IsB h t a its) : z ≠ a := fun e => by
  obtain ⟨o, e2, _, n, d⟩ := y.cls
  rw [← e] at e2
  cases hz.symm.trans e2
  cases d
theorem turn_zz {P : Program} {w : World} {K : PySem.W.Frag} {elts : List Expr} {kk : Nat} {tpos : Pos} {t u : Bool} {a b z TI TO i1 i2 : Addr} (D : ZApart z TI TO i1 i2 a b) :
    Turn P w K (.Tuple elts kk tpos) (Itzz K t u a b) [z, TI, TO, i1, i2] z (fun j h => IsZip h z TI TO .none ∧ IsPair h TI (.ref i1) (.ref i2) ∧ (∃ x y, IsPair h TO x y) ∧ ItB h t i1 a j ∧ ItB h u i2 b j) where
  mem := List.mem_cons_self
  obj := by
    rintro j h ⟨hz, hI, ⟨x, y, hO⟩, h1, h2⟩ c hc
    rcases five.mp hc with q | q | q | q | q
    · rw [q]; exact ⟨_, hz, fun v e => nomatch e⟩
    · rw [q]; exact ⟨_, hI, fun v e => nomatch e⟩
    · rw [q]; exact ⟨_, hO, fun v e => nomatch e⟩
    · obtain ⟨o, e, _, f, d⟩ := h1.cls
      rw [q]; exact ⟨o, e, fun v e => by rw [d] at e; cases e⟩
    · obtain ⟨o, e, _, f, d⟩ := h2.cls
      rw [q]; exact ⟨o, e, fun v e => by rw [d] at e; cases e⟩
  keep := by
    rintro j h h3 ⟨hz, hI, ⟨x, y, hO⟩, h1, h2⟩ k
    exact ⟨k z (by simp) _ hz, k TI (by simp) _ hI, ⟨x, y, k TO (by simp) _ hO⟩, h1.keep fun o q => k i1 (by simp) o q, h2.keep fun o q => k i2 (by simp) o q⟩
  item := by
    rintro X rfl rfl rfl hc j pins s σ H E I hf ⟨hz, hI, ⟨x0, y0, hO⟩, h1, h2⟩ ⟨vs, ws, x, y, q1, q2, e1, e2⟩
    obtain ⟨its, rv, p1⟩ := sqb_at I q1
    obtain ⟨jts, rw', p2⟩ := sqb_at I q2
    obtain ⟨m1, g1, ru1⟩ := rv.get e1
    obtain ⟨m2, g2, ru2⟩ := rw'.get e2
    have hh : X.A.in1.handled = none := I.ok.hd hc
    obtain ⟨n1, P1, S1, D1, s1, b1, _, l1, v1, o1⟩ := src_draws (prog := X.prog) (w := X.w) hh h1 p1
    obtain ⟨n2, P2, S2, D2, s2, b2, _, l2, v2, o2⟩ := src_draws (prog := X.prog) (w := X.w) hh h2 p2
    have S : ZipSep2 z TI TO i1 i2 [i1, a] [i2, b] :=
      { TIz := D.Tz, TOz := D.Oz, TITO := D.IO, TIi1 := D.T1, mem1 := List.mem_cons_self, zf1 := by simp [D.z1, zip_ne hz p1], Tf1 := by simp [D.O1, D.Oa], TIi2 := D.T2, mem2 := List.mem_cons_self,
        zf2 := by simp [D.z2, zip_ne hz p2], Tf2 := by simp [D.O2, D.Ob], sep1_2 := by simp [D.n12, (itB_ne h1 p2).symm], sep2_1 := by simp [D.n12.symm, (itB_ne h2 p1).symm] }
    have lz : z < s.heap.objs.size := Heap.lt_size hz
    refine wpAny_pyNext_zipD2_item S D1 D2 hz hI hO s1 s2 (l1 (by simpa using (List.getElem?_eq_some_iff.mp g1).1)) (l2 (by simpa using (List.getElem?_eq_some_iff.mp g2).1)) fun u1 u2 h3 tk y1 y2 z3 O3 t1 t2 T3 sz hk => ?_
    have ue1 : u1 = m1 := Option.some.inj ((v1 _ y1).symm.trans (by simpa using g1))
    have ue2 : u2 = m2 := Option.some.inj ((v2 _ y2).symm.trans (by simpa using g2))
    subst ue1 ue2
    refine ⟨_, rfl, wpAny_letOwnedTupleGo_zip (s := { s with heap := h3, toks := tk }) z3 fun h4 z4 sb => ?_⟩
    have T4 := (sb.2 _ (Nat.ne_of_gt lz)).trans T3
    have new : ObjOk X.prog X.w (upd H s.heap.objs.size (.tup [x, y])) h4 s.heap.objs.size (.tup [x, y]) :=
      ⟨by show 2 ≤ sizeLine; decide, [u1, u2], .cons ru1 (.cons ru2 .nil), ⟨_, T4, rfl, _, rfl⟩⟩
    have I1 : Inv X pins σ (upd H s.heap.objs.size (.tup [x, y])) { s with heap := h4, toks := tk } :=
      I.turnedNew (ch := [z, TI, TO, i1, i2]) (fun c o hb q => by
        have nb : c ≠ z ∧ c ≠ TI ∧ c ≠ TO ∧ c ≠ i1 ∧ c ≠ i2 := by simpa using hb
        exact (sb.2 c nb.1).trans (hk c o nb.1 nb.2.2.1 nb.2.2.2.1 nb.2.2.2.2 q)) hf (Nat.le_refl _) new
    refine ⟨.ref s.heap.objs.size, _, I1, rfl, ⟨_, x, y, rfl, I.hok.fresh (Nat.le_refl _), rfl, fun l hl => by rw [sqb_inj I hl q1]; exact e1, fun l hl => by rw [sqb_inj I hl q2]; exact e2⟩,
      ⟨z4, (sb.2 _ D.Tz).trans (hk _ _ D.Tz D.IO D.T1 D.T2 hI), ⟨u1, u2, (sb.2 _ D.Oz).trans O3⟩, (o1 _ t1).keep fun o q => (sb.2 _ D.z1.symm).trans q, (o2 _ t2).keep fun o q => (sb.2 _ D.z2.symm).trans q⟩, fun c hcm => ?_⟩
    have lc : c < s.heap.objs.size := by
      rcases five.mp hcm with q | q | q | q | q
      · rw [q]; exact lz
      · rw [q]; exact Heap.lt_size hI
      · rw [q]; exact Heap.lt_size hO
      · obtain ⟨o, e, _⟩ := h1.cls
        rw [q]; exact Heap.lt_size e
      · obtain ⟨o, e, _⟩ := h2.cls
        rw [q]; exact Heap.lt_size e
    rw [upd_ne (Nat.ne_of_lt lc)]
    exact (hf c hcm).1
  done := by
    rintro X rfl rfl rfl hc j pins s σ H E I hf ⟨hz, hI, ⟨x0, y0, hO⟩, h1, h2⟩ ⟨vs, ws, q1, q2, hend⟩
    obtain ⟨its, rv, p1⟩ := sqb_at I q1
    obtain ⟨jts, rw', p2⟩ := sqb_at I q2
    have hh : X.A.in1.handled = none := I.ok.hd hc
    obtain ⟨n1, P1, S1, D1, s1, b1, f1, l1, v1, o1⟩ := src_draws (prog := X.prog) (w := X.w) hh h1 p1
    obtain ⟨n2, P2, S2, D2, s2, b2, f2, l2, v2, o2⟩ := src_draws (prog := X.prog) (w := X.w) hh h2 p2
    have S : ZipSep2 z TI TO i1 i2 [i1, a] [i2, b] :=
      { TIz := D.Tz, TOz := D.Oz, TITO := D.IO, TIi1 := D.T1, mem1 := List.mem_cons_self, zf1 := by simp [D.z1, zip_ne hz p1], Tf1 := by simp [D.O1, D.Oa], TIi2 := D.T2, mem2 := List.mem_cons_self,
        zf2 := by simp [D.z2, zip_ne hz p2], Tf2 := by simp [D.O2, D.Ob], sep1_2 := by simp [D.n12, (itB_ne h1 p2).symm], sep2_1 := by simp [D.n12.symm, (itB_ne h2 p1).symm] }
    have e1 := rv.length
    have e2 := rw'.length
    have ends : j = n1 ∨ j = n2 := by
      rcases hend with q | q
      · exact .inl (f1 (by simp; omega))
      · exact .inr (f2 (by simp; omega))
    exact wpAny_pyNext_zipD2_end S D1 D2 hz hI hO s1 s2 b1 b2 ends fun h3 tk hk => ⟨rfl, I.turnedL (ch := [z, TI, TO, i1, i2]) (fun c o hb q => by
      have nb : c ≠ z ∧ c ≠ TI ∧ c ≠ TO ∧ c ≠ i1 ∧ c ≠ i2 := by simpa using hb
      exact hk c o nb.1 nb.2.2.1 nb.2.2.2.1 nb.2.2.2.2 q) hf⟩
  self := fun A j s Q E st h => wpAny_pyIter_zip st.1 h
/-- iter(a), new -/
def itO (t : Bool) (a : Addr) : Obj := { cls := .type (if t = true then "tuple_iterator" else "list_iterator"), data := .fields #[.ref a, .int 0 0] }
theorem beg_of (t : Bool) (a : Addr) (its : Array Value) : Begins (.ref a) (itO t a) fun h => IsB h t a its := by
  cases t
  · exact begins_list a its
  · exact begins_tuple a its
theorem itO_at {h : Heap} {t : Bool} {it a : Addr} (e : h.get? it = some (itO t a)) : ItB h t it a 0 := by
  cases t
  · exact ⟨_, e, rfl, rfl⟩
  · exact ⟨_, e, rfl, rfl⟩
theorem IsB.lt {h : Heap} {t : Bool} {a : Addr} {its : Array Value} (x : IsB h t a its) : a < h.objs.size := by
  obtain ⟨o, e, _⟩ := x.cls
  exact Heap.lt_size e
def iZz (K : PySem.W.Frag) (ta : TA) : TI := fun σ H R => ta σ H fun us H1 => ∃ (t u : Bool) (a b : Addr) (vs ws : List V), us = [.ref a, .ref b] ∧ SqB K H1 t a vs ∧ SqB K H1 u b ws ∧ R (Itzz K t u a b) H1
theorem pi_zz {X : Cx} {a b : Expr} {ta : TA} {p pos tpos : Pos} {elts : List Expr} {kk : Nat} (hg : Gl X "zip") (hm : X.mg "zip" = none) (ha : PA X [a, b] ta)
    (one : starEach [a, b] X.env = (false, eval a X.env) :: starEach [b] X.env := by rfl) (two : (backTo pos (starEach [b] X.env)).any (·.1) = false := by rfl) :
    PI X (.Tuple elts kk tpos) (.Call (.Name "zip" p) [a, b] [] pos) (iZz X.K ta) := by
  refine ⟨fun pins s σ H R I h => Call_ (ld_blt I hg hm PyProof.Rows.boot_zip (PyProof.Rows.callWith_type1 (thn (ha.run pos pins s σ H _ I h) ?_) one two))⟩
  rintro us s1 ⟨xs, H1, I1, r1, t, u, d, e, vs, ws, rfl, q1, q2, q⟩
  cases r1 with
  | cons r rr =>
    cases rr with
    | cons r' rr =>
      cases rr
      cases r
      cases r'
      obtain ⟨its, rv, p1⟩ := sqb_at I1 q1
      obtain ⟨jts, rw', p2⟩ := sqb_at I1 q2
      have ld := p1.lt
      have le := p2.lt
      refine zip_begins2 (beg_of t d its.toArray) (beg_of u e jts.toArray) p1 p2 fun h2 hz hI hO g1 g2 sz hk => wpAny_pyIter_zip hz ?_
      have I2 : Inv X pins σ H1 { s1 with heap := h2 } := I1.kept (t' := s1.toks) hk
      have D : ZApart (s1.heap.objs.size + 4) (s1.heap.objs.size + 2) (s1.heap.objs.size + 3) s1.heap.objs.size (s1.heap.objs.size + 1) d e := by
        generalize s1.heap.objs.size = n at ld le
        constructor
        case Oa => exact Nat.ne_of_gt (Nat.lt_of_lt_of_le ld (Nat.le_add_right _ _))
        case Ob => exact Nat.ne_of_gt (Nat.lt_of_lt_of_le le (Nat.le_add_right _ _))
        all_goals first | (apply Nat.ne_of_gt; omega) | (apply Nat.ne_of_lt; omega)
      refine ⟨s1.heap.objs.size + 4, [s1.heap.objs.size + 4, s1.heap.objs.size + 2, s1.heap.objs.size + 3, s1.heap.objs.size, s1.heap.objs.size + 1], _, _, H1, rfl, I2, turn_zz D, ⟨hz, hI, ⟨_, _, hO⟩, itO_at g1, itO_at g2⟩, fun c hc => ?_, q⟩
      have lc : s1.heap.objs.size ≤ c := by
        rcases five.mp hc with z | z | z | z | z
        · rw [z]; exact Nat.le_add_right _ _
        · rw [z]; exact Nat.le_add_right _ _
        · rw [z]; exact Nat.le_add_right _ _
        · rw [z]; exact Nat.le_refl _
        · rw [z]; exact Nat.le_add_right _ _
      exact I1.fpOk lc (I1.hok.fresh lc)
variable {T : Tx} {av av' : Av} {r r' r2 : List Addr} {H H' H2 : Hp} {X : Cx} {W : WX} {a b : Expr} {pos : Pos}
/-- the members of a tuple or of a list that doesn't change -/
def sqOf : PV → Option (Bool × List PV)
  | .tup xs => some (true, xs)
  | .lst xs => some (false, xs)
  | .kst xs => some (false, xs)
  | _ => none
theorem sqOf_ok (hK : X.K = T.K) {x : PV} {t : Bool} {xs : List PV} {v : V} (h : sqOf x = some (t, xs)) (rv : RV T av r H x v) : ∃ a vs, v = .ref a ∧ SqB X.K H t a vs ∧ RVs T av r H xs vs := by
  unfold sqOf at h
  split at h
  · cases h; exact tup_ok hK rv
  · cases h
    unfold RV at rv
    obtain ⟨a, vs, rfl, _, hl, hv⟩ := rv
    exact ⟨a, vs, rfl, .inl hl, hv⟩
  · cases h; exact kst_ok hK rv
  · cases h
def zipI (xs ys : List PV) : MI := fun _ i => some (match xs[i]?, ys[i]? with
  | some x, some y => some (.tup [x, y])
  | _, _ => none)
theorem iok_zip (hK : X.K = T.K) {x y : PV} {t u : Bool} {xs ys : List PV} {v w : V} (hx : sqOf x = some (t, xs)) (hy : sqOf y = some (u, ys)) (rv : RV T av r H x v) (rw0 : RV T av r H y w) :
    ∃ a b vs ws, v = .ref a ∧ w = .ref b ∧ SqB X.K H t a vs ∧ SqB X.K H u b ws ∧ IOk T av r H (zipI xs ys) (Itzz X.K t u a b) := by
  obtain ⟨a, vs, rfl, ha, hv⟩ := sqOf_ok hK hx rv
  obtain ⟨b, ws, rfl, hb, hw⟩ := sqOf_ok hK hy rw0
  refine ⟨a, b, vs, ws, rfl, rfl, ha, hb, fun av' r' H' m' i hwd g rm => ?_⟩
  obtain ⟨a', vs', e, ha', hv'⟩ := sqOf_ok hK hx ((rv.widen hwd).growA g)
  cases e
  obtain ⟨b', ws', e, hb', hw'⟩ := sqOf_ok hK hy ((rw0.widen hwd).growA g)
  cases e
  show match zipI xs ys m' i with
    | none => True
    | some none => _
    | some (some x) => _
  unfold zipI
  cases q : xs[i]? with
  | none => exact ⟨vs', ws', ha', hb', .inl (by rw [hv'.length]; exact List.getElem?_eq_none_iff.mp q)⟩
  | some x1 =>
    cases q2 : ys[i]? with
    | none => exact ⟨vs', ws', ha', hb', .inr (by rw [hw'.length]; exact List.getElem?_eq_none_iff.mp q2)⟩
    | some y1 =>
      obtain ⟨v1, hv1, rv1⟩ := hv'.get q
      obtain ⟨w1, hw1, rw1⟩ := hw'.get q2
      refine ⟨⟨vs', ws', v1, w1, ha', hb', hv1, hw1⟩, fun v H2 z => ?_⟩
      obtain ⟨N, z1, z2, rfl, hN, rfl, f1, f2⟩ := z
      have e1 : z1 = v1 := Option.some.inj ((f1 vs' ha').symm.trans hv1)
      have e2 : z2 = w1 := Option.some.inj ((f2 ws' hb').symm.trans hw1)
      subst e1 e2
      refine ⟨r', grow_upd hN, (rm.pass hN), rv_newT rm hN ?_⟩
      unfold RVs
      exact ⟨_, _, rfl, rv1, by unfold RVs; exact ⟨_, [], rfl, rw1, by unfold RVs; rfl⟩⟩
def mIZ (mr : MA) : Env → Mem → Res MI := fun e m => (mr e m).bind fun vs m1 => match vs with
  | [x, y] => match sqOf x, sqOf y with
    | some (_, xs), some (_, ys) => .ok (zipI xs ys) m1
    | _, _ => .bad
  | _ => .bad
theorem si_zip (hK : X.K = T.K) {mr : MA} {elts : List Expr} {kk : Nat} {p tpos : Pos} (hg : Gl X "zip") (hm : X.mg "zip" = none) (ha : SA X T W [a, b] mr)
    (one : starEach [a, b] X.env = (false, eval a X.env) :: starEach [b] X.env := by rfl) (two : (backTo pos (starEach [b] X.env)).any (·.1) = false := by rfl) : SI X T W (.Tuple elts kk tpos) (.Call (.Name "zip" p) [a, b] [] pos) (mIZ mr) :=
  ⟨PI.imp (pi_zz hg hm ha.pa one two) fun σ H R ⟨av, r, e, m, re, rm, h⟩ => ⟨av, r, e, m, re, rm, okR_imp (okR_bind h) fun vs m1 h r1 H1 ws g1 rm1 rv => by
    split at h
    · split at h
      · rename_i x y _ _ t xs u ys hx hy
        obtain ⟨v, w, rfl, hv, hw⟩ := rvs2 rv
        obtain ⟨a, b, us, zs, rfl, rfl, h1, h2, iok⟩ := iok_zip (X := X) hK hx hy hv hw
        exact ⟨t, u, a, b, us, zs, rfl, h1, h2, h r1 H1 _ g1 rm1 iok⟩
      · exact h.elim
    · exact h.elim⟩⟩
end M

/-! ranges with a step, reversed walks, x op= e -/
namespace M
open PySem PySem.Spec PyProof.Rows L2
variable {X : Cx} {T : Tx} {W : WX} {a b c : Expr} {ma mb mc : ME} {mt mu : MT} {ms mv : MS} {pos : Pos} {st : Stmt} {rest sts : List Stmt}
variable {av av' : Av} {r r' r2 : List Addr} {H H' H2 : Hp} {m m' : Mem} {tg iter : Expr}
def rngC (lo c : Int) (n : Nat) : MI := fun _ i => some (if i < n then some (.int (lo + (i : Nat) * c)) else none)
theorem iok_rngC {lo c : Int} {n : Nat} : IOk T av r H (rngC lo c n) (Itc lo c n) := fun av' r' H' m' i hw g rm => by
  unfold rngC
  by_cases h : i < n
  · rw [if_pos h]
    refine ⟨h, fun v H2 y => ?_⟩
    obtain ⟨rfl, rfl⟩ := y
    exact ⟨r', .refl, rm, rv_int⟩
  · rw [if_neg h]
    exact Nat.not_lt.mp h
def rgOk (i j c : Int) : Bool := decide (c ≠ 0) && decide (c.natAbs < 1073741824) && Builtin.Range.small i j c && decide (Builtin.Range.rangeSize i j c = ((Builtin.Range.rangeSize i j c).toNat : Nat))
def mIR3 (mr : MA) : Env → Mem → Res MI := fun e m => (mr e m).bind fun vs m1 => match vs with
  | [.int i, .int j, .int c] => if rgOk i j c then .ok (rngC i c (Builtin.Range.rangeSize i j c).toNat) m1 else .bad
  | _ => .bad
theorem rvs3 {x y z : PV} {vs : List V} (h : RVs T av r H [x, y, z] vs) : ∃ u v w, vs = [u, v, w] ∧ RV T av r H x u ∧ RV T av r H y v ∧ RV T av r H z w := by
  unfold RVs at h
  obtain ⟨u, us, rfl, h1, h2⟩ := h
  obtain ⟨v, w, rfl, h3, h4⟩ := rvs2 h2
  exact ⟨u, v, w, rfl, h1, h3, h4⟩
theorem si_range3 {mr : MA} {p : Pos} (hg : Gl X "range") (hm : X.mg "range" = none) (ha : SA X T W [a, b, c] mr) (hs : starEach [a, b, c] X.env = (false, eval a X.env) :: starEach [b, c] X.env := by rfl) (hpl : (backTo pos (starEach [b, c] X.env)).any (·.1) = false := by rfl) : SI X T W tg (.Call (.Name "range" p) [a, b, c] [] pos) (mIR3 mr) :=
  ⟨PI.imp (pi_range3 hg hm ha.pa hs hpl) fun σ H R ⟨av, r, e, m, re, rm, h⟩ => ⟨av, r, e, m, re, rm, okR_imp (okR_bind h) fun vs m1 h r1 H1 ws g1 rm1 rv => by
    split at h
    · rename_i i j c
      split at h
      · rename_i hb
        obtain ⟨u, v, w, rfl, h1, h2, h3⟩ := rvs3 rv
        unfold rgOk at hb
        simp only [Bool.and_eq_true, decide_eq_true_eq] at hb
        exact ⟨i, j, c, _, by rw [h1.int', h2.int', h3.int'], ⟨hb.1.1.1, hb.1.1.2, hb.1.2, hb.2⟩, h r1 H1 _ g1 rm1 iok_rngC⟩
      · exact h.elim
    · exact h.elim⟩⟩
/-- reversed(range(..)) -/
def mRv1 (ma : ME) : Env → Mem → Res MI := fun e m => (ma e m).bind fun x m1 => match x with
  | .int j => if big62 0 && big62 j then .ok (rngC (0 + (((j - 0).toNat : Nat) : Int) - 1) (-1) (j - 0).toNat) m1 else .bad
  | _ => .bad
def mRv2 (ma mb : ME) : Env → Mem → Res MI := fun e m => (ma e m).bind fun x m1 => (mb e m1).bind fun y m2 => match x, y with
  | .int i, .int j => if big62 i && big62 j then .ok (rngC (i + (((j - i).toNat : Nat) : Int) - 1) (-1) (j - i).toNat) m2 else .bad
  | _, _ => .bad
theorem si_rev1 {p p2 pos2 : Pos} (hg : Gl X "reversed") (hm : X.mg "reversed" = none) (hg2 : Gl X "range") (hm2 : X.mg "range" = none) (ha : SE X T W a ma) (na : starEach [a] X.env = (false, eval a X.env) :: starEach [] X.env := by rfl)
    (hs : starEach [.Call (.Name "range" p2) [a] [] pos2] X.env = (false, eval (.Call (.Name "range" p2) [a] [] pos2) X.env) :: starEach [] X.env := by rfl) :
    SI X T W tg (.Call (.Name "reversed" p) [.Call (.Name "range" p2) [a] [] pos2] [] pos) (mRv1 ma) :=
  ⟨PI.imp (pi_revR hg hm (prg_1 hg2 hm2 ha.pe na) hs) fun σ H R ⟨av, r, e, m, re, rm, h⟩ => ⟨av, r, e, m, re, rm, okR_imp (okR_bind h) fun x m1 h r1 H1 v g1 rm1 rv => by
    split at h
    · rename_i j
      split at h
      · rename_i hb
        rw [Bool.and_eq_true] at hb
        obtain ⟨b1, b2⟩ := big62_ok hb.1
        obtain ⟨b3, b4⟩ := big62_ok hb.2
        exact ⟨j, rv.int', b1, b2, b3, b4, h r1 H1 _ g1 rm1 iok_rngC⟩
      · exact h.elim
    · exact h.elim⟩⟩
theorem si_rev2 {p p2 pos2 : Pos} (hg : Gl X "reversed") (hm : X.mg "reversed" = none) (hg2 : Gl X "range") (hm2 : X.mg "range" = none) (ha : SE X T W a ma) (hb : SE X T W b mb)
    (na : starEach [a, b] X.env = (false, eval a X.env) :: starEach [b] X.env := by rfl) (nb : starEach [b] X.env = (false, eval b X.env) :: starEach [] X.env := by rfl) (np : (backTo pos2 (starEach [b] X.env)).any (·.1) = false := by rfl)
    (hs : starEach [.Call (.Name "range" p2) [a, b] [] pos2] X.env = (false, eval (.Call (.Name "range" p2) [a, b] [] pos2) X.env) :: starEach [] X.env := by rfl) :
    SI X T W tg (.Call (.Name "reversed" p) [.Call (.Name "range" p2) [a, b] [] pos2] [] pos) (mRv2 ma mb) :=
  ⟨PI.imp (pi_revR hg hm (prg_2 hg2 hm2 ha.pe hb.pe na nb np) hs) fun σ H R ⟨av, r, e, m, re, rm, k0⟩ => ⟨av, r, e, m, re, rm, okR_imp (okR_bind k0) fun x m1 k1 r1 H1 v g1 rm1 rv => ⟨av, r1, e, m1, re.grow g1, rm1, okR_grow g1 (fun y m2 h r2 H2 w g2 rm2 rw => by
    split at h
    · rename_i i j
      split at h
      · rename_i hb
        rw [Bool.and_eq_true] at hb
        obtain ⟨b1, b2⟩ := big62_ok hb.1
        obtain ⟨b3, b4⟩ := big62_ok hb.2
        exact ⟨i, j, (rv.grow g2).int', rw.int', b1, b2, b3, b4, h r2 H2 _ (g1.trans g2) rm2 iok_rngC⟩
      · exact h.elim
    · exact h.elim) (okR_bind k1)⟩⟩⟩
/-- reversed(a tuple, a list) -/
def revI (xs : List PV) : MI := fun _ i => some (if i < xs.length then xs[xs.length - 1 - i]? else none)
theorem iok_rev (hK : X.K = T.K) {x : PV} {t : Bool} {xs : List PV} {v : V} (hx : sqOf x = some (t, xs)) (rv : RV T av r H x v) :
    ∃ a vs, v = .ref a ∧ ((SqL X.K H a vs ∧ IOk T av r H (revI xs) (Itv X.K a vs.length)) ∨ (SqT X.K H a vs ∧ IOk T av r H (revI xs) (RT.ItvT X.K a vs.length))) := by
  obtain ⟨a, vs, rfl, ha, hv⟩ := sqOf_ok hK hx rv
  have hl := hv.length
  refine ⟨a, vs, rfl, ?_⟩
  cases t
  · refine .inl ⟨ha, fun av' r' H' m' i hwd g rm => ?_⟩
    obtain ⟨a', vs', e, ha', hv'⟩ := sqOf_ok hK hx ((rv.widen hwd).growA g)
    cases e
    have hl' := hv'.length
    show match revI xs m' i with
      | none => True
      | some none => _
      | some (some x) => _
    unfold revI
    by_cases lt : i < xs.length
    · rw [if_pos lt]
      have lt2 : xs.length - 1 - i < xs.length := by omega
      rw [List.getElem?_eq_getElem lt2]
      obtain ⟨w, hw, rw1⟩ := hv'.get (List.getElem?_eq_getElem lt2)
      refine ⟨⟨by omega, vs', w, ha', by rw [hl]; exact hw⟩, fun v H2 y => ?_⟩
      obtain ⟨rfl, f⟩ := y
      have q := f vs' ha'
      rw [hl, hw] at q
      cases q
      exact ⟨r', .refl, rm, rw1⟩
    · rw [if_neg lt]
      show vs.length ≤ i
      omega
  · refine .inr ⟨ha, fun av' r' H' m' i hwd g rm => ?_⟩
    obtain ⟨a', vs', e, ha', hv'⟩ := sqOf_ok hK hx ((rv.widen hwd).growA g)
    cases e
    have hl' := hv'.length
    show match revI xs m' i with
      | none => True
      | some none => _
      | some (some x) => _
    unfold revI
    by_cases lt : i < xs.length
    · rw [if_pos lt]
      have lt2 : xs.length - 1 - i < xs.length := by omega
      rw [List.getElem?_eq_getElem lt2]
      obtain ⟨w, hw, rw1⟩ := hv'.get (List.getElem?_eq_getElem lt2)
      refine ⟨⟨by omega, vs', w, ha', by rw [hl]; exact hw⟩, fun v H2 y => ?_⟩
      obtain ⟨rfl, f⟩ := y
      have q := f vs' ha'
      rw [hl, hw] at q
      cases q
      exact ⟨r', .refl, rm, rw1⟩
    · rw [if_neg lt]
      show vs.length ≤ i
      omega
def mRvS (ma : ME) : Env → Mem → Res MI := fun e m => (ma e m).bind fun x m1 => match sqOf x with
  | some (_, xs) => .ok (revI xs) m1
  | none => .bad
theorem si_revS (hK : X.K = T.K) {p : Pos} (hg : Gl X "reversed") (hm : X.mg "reversed" = none) (ha : SE X T W a ma) (hs : starEach [a] X.env = (false, eval a X.env) :: starEach [] X.env := by rfl) : SI X T W tg (.Call (.Name "reversed" p) [a] [] pos) (mRvS ma) :=
  ⟨PI.imp (RT.pi_revA hg hm ha.pe hs) fun σ H R ⟨av, r, e, m, re, rm, h⟩ => ⟨av, r, e, m, re, rm, okR_imp (okR_bind h) fun x m1 h r1 H1 v g1 rm1 rv => by
    split at h
    · rename_i t xs hx
      obtain ⟨a, vs, rfl, q⟩ := iok_rev (X := X) hK hx rv
      exact ⟨a, vs, rfl, q.imp (fun z => ⟨z.1, h r1 H1 _ g1 rm1 z.2⟩) fun z => ⟨z.1, h r1 H1 _ g1 rm1 z.2⟩⟩
    · exact h.elim⟩⟩
/-! ### x op= e -/
def IpM (X : Cx) (T : Tx) (op : Operator) (f : PV → PV → Mem → Option PV) : Prop :=
  ∃ ti : TIp, PIp X op ti ∧ ∀ {av : Av} {r : List Addr} {H : Hp} {m : Mem} {x y z : PV} {v w : V} {Q : VK}, RM T av r H m → RV T av r H x v → RV T av r H y w → f x y m = some z → KE T av r H Q z m → ti v w H Q
theorem ipm_add : IpM X T .Add fAddI := ⟨_, ip_add, fun {av r H m x y z v w Q} rm rv rw e k => by
  obtain ⟨i, j, rfl, rfl, hk, rfl⟩ := fI_some e
  exact ⟨i, j, rv.int', rw.int', k r H _ .refl rm rv_int⟩⟩
theorem ipm_sub : IpM X T .Sub fSubI := ⟨_, ip_sub, fun {av r H m x y z v w Q} rm rv rw e k => by
  obtain ⟨i, j, rfl, rfl, hk, rfl⟩ := fI_some e
  exact ⟨i, j, rv.int', rw.int', k r H _ .refl rm rv_int⟩⟩
theorem ipm_or : IpM X T .BitOr fOrI := ⟨_, iop_or, fun {av r H m x y z v w Q} rm rv rw e k => by
  obtain ⟨i, j, rfl, rfl, hk, rfl⟩ := fI_some e
  exact ⟨i, j, rv.int', rw.int', k r H _ .refl rm rv_int⟩⟩
def mAug (i : Nat) (f : PV → PV → Mem → Option PV) (ma : ME) : MS := fun e m => match e[i]? with
  | some (some x) => sB (ma e m) e fun y m1 => match f x y m1 with
    | some z => .nx (e.set i (some z)) m1
    | none => .bad
  | _ => .bad
theorem ss_aug (i : Nat) {x : Str} {pos' : Pos} {op : Operator} {f : PV → PV → Mem → Option PV} (hN : X.N.Nodup) (hi : X.N[i]? = some x) (hx : Loc X.env.scope x) (ha : SE X T W a ma) (ho : IpM X T op f) (hf : X.fn x = true ∨ X.env.scope.names.lookup x = some .local := by first | exact .inl rfl | exact .inr rfl) :
    SS X T W (.AugAssign (.Name x pos') op a pos) (mAug i f ma) := by
  obtain ⟨ti, h1, h2⟩ := ho
  refine ⟨PS.imp (ps_aug hN hi hx ha.pe h1 hf) fun D σ H ⟨av, r, e, m, re, rm, h⟩ => ?_⟩
  unfold mAug at h
  split at h
  · rename_i x hx
    obtain ⟨w, hw, rw0⟩ := re.get hx
    refine ⟨w, hw, av, r, e, m, re, rm, okR_imp (okS_sB re h) fun y m1 h r1 H1 v g1 rm1 rv => ?_⟩
    split at h
    · rename_i z hz
      exact h2 rm1 (rw0.grow g1) rv hz fun r2 H2 u g2 rm2 ru => h r2 H2 _ (g1.trans g2) rm2 ((re.grow (g1.trans g2)).set ru i)
    · exact h.elim
  · exact h.elim
end M

/-! dicts whose keys are tuples; get with a default -/
namespace M
open PySem PySem.Spec PyProof.Rows L2
variable {X : Cx} {T : Tx} {W : WX} {a b c : Expr} {ma mb mc : ME} {mt mu : MT} {ms mv : MS} {pos : Pos} {st : Stmt} {rest sts : List Stmt}
variable {av av' : Av} {r r' r2 : List Addr} {H H' H2 : Hp} {m m' : Mem} {tg iter : Expr}
def keysOf : List PV → Option (List L2.Key)
  | [] => some []
  | x :: xs => match keyOf x, keysOf xs with
    | some k, some ks => some (k :: ks)
    | _, _ => none
theorem keysOf_ok : ∀ {xs : List PV} {k : List L2.Key} {vs : List V}, keysOf xs = some k → RVs T av r H xs vs → vs = k.map kV
  | [], k, vs, h, hv => by
    unfold keysOf at h
    cases h
    unfold RVs at hv
    exact hv
  | x :: xs, k, vs, h, hv => by
    unfold keysOf at h
    split at h
    · rename_i k1 ks h1 h2
      cases h
      unfold RVs at hv
      obtain ⟨v, ws, rfl, q1, q2⟩ := hv
      rw [keyOf_ok h1 q1, keysOf_ok h2 q2]
      rfl
    · cases h
/-- a key's address -/
theorem key_at (hkt : T.kt = false) {xs : List PV} {k : List L2.Key} {w : V} (h : keysOf xs = some k) (rv : RV T av r H (.tup xs) w) : ∃ q, w = .ref q ∧ H q = some (.tup (k.map kV)) := by
  unfold RV at rv
  obtain ⟨q, vs, rfl, d, hv⟩ := rv
  rcases d with ⟨_, d⟩ | ⟨z, _⟩
  · rw [keysOf_ok h hv] at d
    exact ⟨q, rfl, d⟩
  · rw [hkt] at z
    cases z
def getW (k : List L2.Key) : List (List L2.Key) → List PV → Option PV
  | p :: ks, w :: ws => if p = k then some w else getW k ks ws
  | _, _ => none
theorem getW_ok {k : List L2.Key} : ∀ {kvs : List (List L2.Key × V)} {ws : List PV}, RVs T av r H ws (kvs.map (·.2)) → match getW k (kvs.map (·.1)) ws with
    | some w => ∃ z, valV kvs k = some z ∧ RV T av r H w z
    | none => valV kvs k = none
  | [], ws, h => by cases ws <;> exact rfl
  | kv :: kvs, [], h => by unfold RVs at h; cases h
  | kv :: kvs, w :: ws, h => by
    unfold RVs at h
    obtain ⟨y, ys, e, h1, h2⟩ := h
    cases e
    show match (if kv.1 = k then some w else getW k (kvs.map (·.1)) ws) with
      | some w => ∃ z, valV (kv :: kvs) k = some z ∧ RV T av r H w z
      | none => valV (kv :: kvs) k = none
    by_cases q : kv.1 = k
    · rw [if_pos q]
      refine ⟨kv.2, ?_, h1⟩
      unfold valV
      rw [List.find?_cons_of_pos (by simpa using q)]; rfl
    · rw [if_neg q]
      have e : valV (kv :: kvs) k = valV kvs k := by
        unfold valV
        rw [List.find?_cons_of_neg (by simpa using q)]
      rw [e]
      exact getW_ok h2
def dttOf : PV → Mem → Option (List (List L2.Key) × List PV)
  | .dtt ks ws, _ => some (ks, ws)
  | .ref i, m => match m[i]? with
    | some (.dtt ks ws) => some (ks, ws)
    | _ => none
  | _, _ => none
theorem dttOf_ok {x : PV} {v : V} {ks : List (List L2.Key)} {ws : List PV} (rm : RM T av r H m) (rv : RV T av r H x v) (h : dttOf x m = some (ks, ws)) : ∃ a kvs, v = .ref a ∧ Rd H a (.dT kvs) ∧ kvs.map (·.1) = ks ∧ RVs T av r H ws (kvs.map (·.2)) := by
  unfold dttOf at h
  split at h
  · cases h
    unfold RV at rv
    obtain ⟨a, kvs, rfl, _, d, nm, hv⟩ := rv
    exact ⟨a, kvs, rfl, d, nm, hv⟩
  · split at h
    · rename_i i m ks' ws' hx
      cases h
      unfold RV at rv
      obtain ⟨a, h1, rfl⟩ := rv
      obtain ⟨kvs, h2, nm, h3⟩ := rm.ob _ _ a hx h1
      exact ⟨a, kvs, rfl, .inl h2, nm, h3⟩
    · cases h
  · cases h
def lookT (x y : PV) (m : Mem) : Option (Option PV) := match dttOf x m, y with
  | some (ks, ws), .tup xs => match keysOf xs with
    | some k => some (getW k ks ws)
    | none => none
  | _, _ => none
theorem lookT_ok (hkt : T.kt = false) {x y : PV} {v w : V} {o : Option PV} (rm : RM T av r H m) (rv : RV T av r H x v) (rw0 : RV T av r H y w) (h : lookT x y m = some o) : ∃ a z, v = .ref a ∧ DGet H a w z ∧ OptV T av r H o z := by
  unfold lookT at h
  split at h
  · rename_i ks ws xs hd
    split at h
    · rename_i k hk
      obtain ⟨a, kvs, rfl, d, nm, hv⟩ := dttOf_ok rm rv hd
      obtain ⟨q, rfl, hq⟩ := key_at hkt hk rw0
      refine ⟨a, valV kvs k, rfl, .inr ⟨kvs, k, q, d, rfl, hq, rfl⟩, ?_⟩
      have z := getW_ok (k := k) hv
      rw [nm] at z
      rw [← Option.some.inj h]
      cases hu : getW k ks ws with
      | none => rw [hu] at z; exact z
      | some u => rw [hu] at z; exact z
    · cases h
  · cases h
/-- either kind -/
def lookA (x y : PV) (m : Mem) : Option (Option PV) := match lookP x y m with
  | some o => some o
  | none => lookT x y m
theorem lookA_ok (hkt : T.kt = false) {x y : PV} {v w : V} {o : Option PV} (rm : RM T av r H m) (rv : RV T av r H x v) (rw0 : RV T av r H y w) (h : lookA x y m = some o) : ∃ a z, v = .ref a ∧ DGet H a w z ∧ OptV T av r H o z := by
  unfold lookA at h
  split at h
  · rename_i o' ho
    cases h
    exact lookP_ok rm rv rw0 ho
  · exact lookT_ok hkt rm rv rw0 h
def isDct (x : PV) (m : Mem) : Bool := match dctOf x m with
  | some (ks, _) => flatKs ks
  | none => (dttOf x m).isSome
theorem isDct_ok {x : PV} {v : V} (rm : RM T av r H m) (rv : RV T av r H x v) (h : isDct x m = true) : ∃ a, v = .ref a ∧ IsD H a := by
  unfold isDct at h
  split at h
  · rename_i ks ws hd
    obtain ⟨a, vs, rfl, d, _⟩ := dctOf_ok rm rv hd
    obtain ⟨kvs, h1, _⟩ := dk_flat d h
    exact ⟨a, rfl, .inl ⟨kvs, h1⟩⟩
  · rename_i hn
    obtain ⟨⟨ks, ws⟩, hd⟩ := Option.isSome_iff_exists.mp h
    obtain ⟨a, kvs, rfl, d, _⟩ := dttOf_ok rm rv hd
    exact ⟨a, rfl, .inr ⟨kvs, d⟩⟩
/-- d.get(k, x) -/
def mGet2 (md mk mx : ME) : ME := fun e m => (md e m).bind fun x m1 => if isDct x m1 then (mk e m1).bind fun y m2 => (mx e m2).bind fun z m3 => match lookA x y m3 with
  | some (some w) => .ok w m3
  | some none => .ok z m3
  | none => .bad
  else .bad
theorem se_get2 (hkt : T.kt = false) (hu : X.A.units + 1 < cLine) {apos : Pos} (ha : SE X T W a ma) (hb : SE X T W b mb) (hc : SE X T W c mc) (m2 : M2 X a "get" apos b c pos) : SE X T W (.Call (.Attribute a "get" apos) [b, c] [] pos) (mGet2 ma mb mc) :=
  ⟨PE.imp (pe_dget2 hu ha.pe hb.pe hc.pe m2) fun σ H Q ⟨av, r, e, m, re, rm, h⟩ =>
    ⟨av, r, e, m, re, rm, okR_imp (okR_bind h) fun x m1 k1 r1 H1 v g1 rm1 rv => by
      split at k1
      · rename_i hd
        obtain ⟨d, rfl, hD⟩ := isDct_ok rm1 rv hd
        refine ⟨d, rfl, hD, av, r1, e, m1, re.grow g1, rm1, okR_grow g1 (fun y m2 k2 r2 H2 w g2 rm2 rw2 => ?_) (okR_bind k1)⟩
        refine ⟨av, r2, e, m2, re.grow (g1.trans g2), rm2, okR_grow (g1.trans g2) (fun z m3 k3 r3 H3 u g3 rm3 ru => ?_) (okR_bind k2)⟩
        split at k3
        · rename_i w0 hl
          obtain ⟨a0, z0, e0, hg, q, rfl, hq⟩ := lookA_ok hkt rm3 (rv.grow (g2.trans g3)) (rw2.grow g3) hl
          cases e0
          exact ⟨_, hg, k3 r3 H3 _ ((g1.trans g2).trans g3) rm3 hq⟩
        · rename_i hl
          obtain ⟨a0, z0, e0, hg, hz⟩ := lookA_ok hkt rm3 (rv.grow (g2.trans g3)) (rw2.grow g3) hl
          cases e0
          cases (show z0 = none from hz)
          exact ⟨_, hg, k3 r3 H3 _ ((g1.trans g2).trans g3) rm3 ru⟩
        · exact k3.elim
      · exact k1.elim⟩⟩
/-- d[k] -/
def mGetT (ma mb : ME) : ME := fun e m => (ma e m).bind fun x m1 => (mb e m1).bind fun y m2 => match lookT x y m2 with
  | some (some w) => .ok w m2
  | _ => .bad
theorem se_getT (hkt : T.kt = false) (hu : X.A.units + 1 < cLine) (ha : SE X T W a ma) (hb : SE X T W b mb) (hs : NoSl b) : SE X T W (.Subscript a b pos) (mGetT ma mb) :=
  ⟨PE.imp (pe_dget hu ha.pe hb.pe hs) fun σ H Q ⟨av, r, e, m, re, rm, h⟩ =>
    ⟨av, r, e, m, re, rm, okR_imp (okR_bind h) fun x m1 h r1 H1 v g1 rm1 rv => ⟨av, r1, e, m1, re.grow g1, rm1, okR_grow g1 (fun y m2 h r2 H2 w g2 rm2 rw2 => by
      split at h
      · rename_i u hl
        obtain ⟨a, z, rfl, hg, q, rfl, hq⟩ := lookT_ok hkt rm2 (rv.grow g2) rw2 hl
        exact ⟨a, q, rfl, hg, h r2 H2 _ (g1.trans g2) rm2 hq⟩
      · exact h.elim) (okR_bind h)⟩⟩⟩
/-- {}, keys to be tuples -/
def mDTN : ME := fun _ m => .ok (.ref m.length) (m ++ [.dtt [] []])
theorem se_dtnew : SE X T W (.Dict [] [] pos) mDTN :=
  ⟨PE.imp pe_dnewT fun σ H Q ⟨av, r, e, m, re, rm, h⟩ p hp => by
    have ra := rm.away (o := .dT []) hp
    have np := rm.fresh hp
    exact h (r ++ [p]) _ (.ref p) (grow_held (grow_upd hp) (soft hp)) (ra.held np ⟨[], upd_same, rfl, by unfold RVs; rfl⟩) (by unfold RV; exact ⟨p, by rw [← rm.len]; simp, rfl⟩)⟩
/-- d[k] = v -/
def putV (k : List L2.Key) (v : PV) : List (List L2.Key) → List PV → List PV
  | p :: ks, w :: ws => (if p = k then v else w) :: putV k v ks ws
  | _, ws => ws
def putT (ks : List (List L2.Key)) (ws : List PV) (k : List L2.Key) (v : PV) : List (List L2.Key) × List PV := if ks.any (fun p => decide (p = k)) then (ks, putV k v ks ws) else (ks ++ [k], ws ++ [v])
theorem putV_ok {k : List L2.Key} {v : PV} {z : V} (hz : RV T av r H v z) : ∀ {kvs : List (List L2.Key × V)} {ws : List PV}, RVs T av r H ws (kvs.map (·.2)) → RVs T av r H (putV k v (kvs.map (·.1)) ws) ((kvs.map fun kv => if kv.1 = k then (kv.1, z) else kv).map (·.2))
  | [], ws, h => by
    cases ws with
    | nil => exact h
    | cons _ _ => unfold RVs at h; obtain ⟨_, _, e, _⟩ := h; cases e
  | kv :: kvs, [], h => by unfold RVs at h; cases h
  | kv :: kvs, w :: ws, h => by
    unfold RVs at h
    obtain ⟨y, ys, e, h1, h2⟩ := h
    cases e
    show RVs T av r H ((if kv.1 = k then v else w) :: putV k v (kvs.map (·.1)) ws) _
    unfold RVs
    refine ⟨_, _, rfl, ?_, putV_ok hz h2⟩
    by_cases q : kv.1 = k
    · rw [if_pos q]
      show RV T av r H v (if kv.1 = k then (kv.1, z) else kv).2
      rw [if_pos q]; exact hz
    · rw [if_neg q]
      show RV T av r H w (if kv.1 = k then (kv.1, z) else kv).2
      rw [if_neg q]; exact h1
theorem putT_ok {k : List L2.Key} {v : PV} {z : V} (hz : RV T av r H v z) {kvs : List (List L2.Key × V)} {ws : List PV} (h : RVs T av r H ws (kvs.map (·.2))) :
    (putK kvs k z).map (·.1) = (putT (kvs.map (·.1)) ws k v).1 ∧ RVs T av r H (putT (kvs.map (·.1)) ws k v).2 ((putK kvs k z).map (·.2)) := by
  have e : ((kvs.map (·.1)).any fun p => decide (p = k)) = kvs.any fun kv => decide (kv.1 = k) := by rw [List.any_map]; rfl
  unfold putK putT
  rw [e]
  by_cases q : (kvs.any fun kv => decide (kv.1 = k)) = true
  · rw [if_pos q, if_pos q]
    refine ⟨?_, putV_ok hz h⟩
    rw [List.map_map]
    refine List.map_congr_left fun kv _ => ?_
    show (if kv.1 = k then (kv.1, z) else kv).1 = kv.1
    split <;> rfl
  · rw [if_neg q, if_neg q]
    refine ⟨by rw [List.map_append]; rfl, ?_⟩
    rw [List.map_append]
    exact h.append (by unfold RVs; exact ⟨z, [], rfl, hz, by unfold RVs; rfl⟩)
def wrT (x o y : PV) (m : Mem) : Option Mem := match o, y with
  | .ref j, .tup xs => match keysOf xs, m[j]? with
    | some k, some (.dtt ks ws) => if szOk ks.length then some (m.set j (.dtt (putT ks ws k x).1 (putT ks ws k x).2)) else none
    | _, _ => none
  | _, _ => none
theorem wrT_ok (hkt : T.kt = false) {x o y : PV} {v u w : V} (rm : RM T av r H m) (rx : RV T av r H x v) (ro : RV T av r H o u) (ry : RV T av r H y w) (h : wrT x o y m = some m') : ∃ p H3, u = .ref p ∧ DPut H p w v H3 ∧ Grow r H r H3 ∧ RM T av r H3 m' := by
  unfold wrT at h
  split at h
  · rename_i j xs
    split at h
    · rename_i k ks ws hk hx
      split at h
      · rename_i hc
        cases h
        unfold RV at ro
        obtain ⟨p, h1, rfl⟩ := ro
        obtain ⟨kvs, d, nm, h3⟩ := rm.ob j _ p hx h1
        obtain ⟨q, rfl, hq⟩ := key_at hkt hk ry
        have hp : p ∈ r := List.mem_of_getElem? h1
        subst nm
        have hz : kvs.length < sizeLine := by
          rw [List.length_map] at hc
          exact szOk_lt hc
        obtain ⟨q1, q2⟩ := putT_ok (k := k) rx h3
        exact ⟨p, _, rfl, .inr ⟨kvs, k, q, d, rfl, hq, hz, rfl⟩, grow_write hp, rm.write h1 (by first | (rw [hl]; trivial) | (rw [hA]; trivial) | (rw [d]; trivial)) ⟨_, upd_same, q1, q2.out (out_mem hp)⟩⟩
      · cases h
    · cases h
  · cases h
def mPutT (md mi mv : ME) : MS := fun e m => sB (mv e m) e fun x m1 => sB (md e m1) e fun o m2 => sB (mi e m2) e fun y m3 => match wrT x o y m3 with
  | some m4 => .nx e m4
  | none => .bad
theorem ss_putT (hkt : T.kt = false) {pos' : Pos} {mv : ME} (hu : X.A.units + 1 < cLine) (ho : SE X T W a ma) (hi : SE X T W b mb) (hv : SE X T W c mv) (hs : swapsWith c (some (.Subscript a b pos')) pos.line X.env = pure false := by rfl) : SS X T W (.Assign [.Subscript a b pos'] c pos) (mPutT ma mb mv) :=
  ⟨PS.imp (ps_dput hu ho.pe hi.pe hv.pe hs) fun D σ H ⟨av, r, e, m, re, rm, h⟩ => ⟨av, r, e, m, re, rm, okR_imp (okS_sB re h) fun x m1 h r1 H1 v g1 rm1 rx =>
    ⟨av, r1, e, m1, re.grow g1, rm1, okR_imp (okS_sB (re.grow g1) (h.grow g1)) fun o m2 h r2 H2 u g2 rm2 ro =>
      ⟨av, r2, e, m2, (re.grow g1).grow g2, rm2, okR_imp (okS_sB ((re.grow g1).grow g2) (h.grow g2)) fun y m3 h r3 H3 w g3 rm3 ry => by
        split at h
        · rename_i m4 hw
          obtain ⟨p, H4, rfl, hd, g4, rm4⟩ := wrT_ok hkt rm3 (rx.grow (g2.trans g3)) (ro.grow g3) ry hw
          exact ⟨p, H4, rfl, hd, h r3 H4 σ (g3.trans g4) rm4 ((((re.grow g1).grow g2).grow g3).grow g4)⟩
        · exact h.elim⟩⟩⟩⟩
end M

/-! a dict of one entry, written out, its key a tuple -/
namespace PySem
open PySem.Spec
theorem one_entry {prog : Program} {w : World} {K : Type} [DecidableEq K] {knd : HeapKind prog w K} {A : Around} {E : Value → Shared → Prop} {s : Shared} {env : Env} {a b : Expr} {pos : Pos} {Q : Value → Shared → Prop} (hu : knd.room A)
    (h : wpAny (model prog w) A (evalPairs (pairTrees [some a] [b] env pos)) (fun vs s1 => ∃ ps, CarriesH knd s1.heap vs ps ∧ s1.heap.DictOfH knd s.heap.objs.size [] ∧
      ∀ h2 tk, h2.DictOfH knd s.heap.objs.size (storedAllH [] ps) → Heap.SameBut s.heap.objs.size s1.heap h2 → Q (.ref s.heap.objs.size) { s1 with heap := h2, toks := tk }) E
      { s with heap := s.heap.push { cls := .type "dict", data := .dict #[] } }) :
    wpAny (model prog w) A (eval (.Dict [some a] [b] pos) env) Q E s := by
  rw [arm_eval_Dict, show (evalEachOpt [some a] env).zip ((evalEach [b] env).map fun v => do let x ← v; standAt pos; pure x) = (pairTrees [some a] [b] env pos).map fun p => (some p.1, p.2) from rfl,
    dictDisplay_pairs _ (by intro z; cases z) (by show 1 < 17; decide)]
  refine wpAny_bind (wpAny_standAt (wpAny_bind ?_))
  refine wpAny_subDictH (knd := knd) (Q := fun d s2 => wpAny (model prog w) A (pure (Value.ref d)) Q E s2) hu (by show 1 ≤ 15; decide) (wpAny_mono h ?_ fun _ _ e => e)
  rintro vs s1 ⟨ps, hc, hm, hq⟩
  exact ⟨ps, hc, hm, fun h2 tk x y => wpAny_pure (hq h2 tk x y)⟩
end PySem
namespace M
open PySem PySem.Spec PyProof.Rows L2
variable {X : Cx} {T : Tx} {W : WX} {a b c : Expr} {ma mb mc : ME} {pos : Pos}
variable {av av' : Av} {r r' r2 : List Addr} {H H' H2 : Hp} {m m' : Mem}
def tOneT (ta tb : TE) : TE := fun σ H Q => ∀ p, H p = none → ta σ (upd H p (.dT [])) fun x H1 => tb σ H1 fun y H2 => ∃ (q : Addr) (k : List L2.Key), x = .ref q ∧ H2 q = some (.tup (k.map kV)) ∧ H2 p = some (.dT []) ∧ Q (.ref p) (upd H2 p (.dT [(k, y)]))
def oneQ (Q : VK) (p : Addr) : List (V × V) → Hp → Prop := fun ps H2 => match ps with
  | [(x, y)] => ∃ (q : Addr) (k : List L2.Key), x = .ref q ∧ H2 q = some (.tup (k.map kV)) ∧ H2 p = some (.dT []) ∧ Q (.ref p) (upd H2 p (.dT [(k, y)]))
  | _ => False
theorem oneQ_of {Q : VK} {p : Addr} {ps : List (V × V)} {H2 : Hp} (h : oneQ Q p ps H2) : ∃ x y, ps = [(x, y)] ∧ ∃ (q : Addr) (k : List L2.Key), x = .ref q ∧ H2 q = some (.tup (k.map kV)) ∧ H2 p = some (.dT []) ∧ Q (.ref p) (upd H2 p (.dT [(k, y)])) := by
  unfold oneQ at h
  split at h
  · exact ⟨_, _, rfl, h⟩
  · exact h.elim
theorem pe_oneT {ta tb : TE} (hu : X.A.units + 1 < cLine) (ha : PE X a ta) (hb : PE X b tb) : PE X (.Dict [some a] [b] pos) (tOneT ta tb) := by
  refine ⟨fun pins s σ H Q I q => ?_⟩
  have hn := I.hok.fresh (Nat.le_refl s.heap.objs.size)
  have I1 := I.laid (a := s.heap.objs.size) (o := .dT []) (h' := s.heap.push { cls := .type "dict", data := .dict #[] }) (t' := s.toks) (fun _ _ z => Heap.get?_push_of_some _ z) (Nat.le_refl _) (dt_empty s.heap I.big)
  have PP : PPs X pos [some a] [b] [(ta, tb)] := pps_cons ha hb pps_nil
  have q0 := q _ hn
  refine one_entry (knd := tupleKind (mixKind X.prog X.w)) (show X.A.units < cLine from by omega) (thn (PP.run pins _ σ _ (oneQ Q s.heap.objs.size) I1 q0) fun vs s2 hh => ?_)
  · obtain ⟨ps, H2, I2, rel, hh⟩ := hh
    obtain ⟨x, y, rfl, q1, k, rfl, hq, hp, hQ⟩ := oneQ_of hh
    cases rel with
    | @cons p0 p1 _ ws hd tl =>
      cases tl
      obtain ⟨key, v⟩ := p1
      obtain ⟨r1, r2⟩ := hd
      cases (show key = Value.ref q1 from r1)
      obtain ⟨z, hd, xs, rl, dd⟩ := dt_of I2.hok hp
      cases rl
      refine ⟨[(k, q1, v)], ⟨rfl, rfl, key_of I2.hok hq, trivial⟩, dd, fun h3 tk dd3 hs => ⟨.ref s.heap.objs.size, _, ?_, rfl, hQ⟩⟩
      obtain ⟨q2, es, ep, e1, e2, e3, e4, _, e5⟩ := dd3
      have ne : q1 ≠ s.heap.objs.size := fun z => by rw [z, hp] at hq; cases hq
      exact d_write I2 (by rw [hp]; exact True.intro) hs ⟨q2, e1⟩ ⟨by show 1 ≤ sizeLine; decide, hd, [(k, q1, v)], .cons ⟨rfl, by rw [upd_ne ne]; exact hq, r2⟩ .nil, q2, es, ep, e1, e2, e3, e4, e5⟩
def mOneT (ma mb : ME) : ME := fun e m => (ma e m).bind fun x m1 => (mb e m1).bind fun y m2 => match x with
  | .tup xs => match keysOf xs with
    | some k => .ok (.dtt [k] [y]) m2
    | none => .bad
  | _ => .bad
theorem se_oneT (hkt : T.kt = false) (hu : X.A.units + 1 < cLine) (ha : SE X T W a ma) (hb : SE X T W b mb) : SE X T W (.Dict [some a] [b] pos) (mOneT ma mb) :=
  ⟨PE.imp (pe_oneT hu ha.pe hb.pe) fun σ H Q ⟨av, r, e, m, re, rm, h⟩ p hp => by
    have g1 : Grow r H r (upd H p (.dT [])) := grow_upd hp
    have re1 : RE T (Avp av p) r (upd H p (.dT [])) e σ := RE.map (fun x v q => RV.away hp x q) re
    have rm1 : RM T (Avp av p) r (upd H p (.dT [])) m := rm.away (o := .dT []) hp
    refine ⟨Avp av p, r, e, m, re1, rm1, okR_near (okR_grow g1 (fun x m1 k1 => ?_) (okR_bind h))⟩
    intro r1 H1 v g2 rm2 rv
    refine ⟨Avp av p, r1, e, m1, re1.grow g2, rm2, okR_near (okR_grow (g1.trans g2) (fun y m2 k2 => ?_) (okR_bind k1))⟩
    intro r2 H2 w g3 rm3 rw2
    have g23 := g2.trans g3
    have d : H2 p = some (.dT []) := g23.keep p _ upd_same (rm.fresh hp) (fun ps z => by cases z)
    have np : p ∉ r2 := fun z => by
      obtain ⟨more, e1, f1⟩ := g23.ext
      rw [e1] at z
      rcases List.mem_append.mp z with z | z
      · exact rm.fresh hp z
      · exact f1 p z ⟨_, upd_same, trivial⟩
    split at k2
    · rename_i xs
      split at k2
      · rename_i k hk
        obtain ⟨q, rfl, hq⟩ := key_at hkt hk (rv.grow g3)
        refine ⟨q, k, rfl, hq, d, ?_⟩
        refine k2 r2 _ (.ref p) (grow_rw (soft hp) (g1.trans g23)) (rm3.rewrite np (by rw [d]; trivial)).near ?_
        unfold RV
        refine ⟨p, [(k, w)], rfl, ⟨rm.freshA hp, np⟩, .inl upd_same, rfl, ?_⟩
        unfold RVs
        exact ⟨w, [], rfl, (rw2.rewrite).near, by unfold RVs; rfl⟩
      · exact k2.elim
    · exact k2.elim⟩
end M

/-! for k, v in d.items(), the keys tuples; the dict is locked meanwhile -/
namespace M
open PySem PySem.Spec PyProof.Rows L2
section
variable {X : Cx} {pins : List (Addr × Obj)} {σ : L2.St} {H : Hp} {s : Shared} {d : Addr} {o : Obj}
theorem inv_frzT {kvs : List (List L2.Key × V)} (I : Inv X pins σ H s) (h : H d = some (.frz o (.dT kvs))) :
    (d == sysModules) = false ∧ ∃ (es : Array DictEntry) (ep : Nat), o.data = .dict es ep ∧ s.heap.DictRaw d es ep ∧ es.size = kvs.length ∧
      ∀ (i : Nat) (k : List L2.Key) (v : V), kvs[i]? = some (k, v) → ∃ (hi : i < es.size) (q : Addr), es[i].key = .ref q ∧ H q = some (.tup (k.map kV)) ∧ RelV v es[i].val := by
  obtain ⟨hd, z, hs, xs, pr, o', es, ep, ho, hx, hdt, he, _⟩ := I.hok d _ h
  rw [hd] at ho
  cases ho
  have l1 : es.size = xs.length := size_of_entries he
  have l2 : kvs.length = xs.length := Paired.length pr
  refine ⟨hs, es, ep, hdt, ⟨o, hd, hx, hdt⟩, by omega, fun i k v e => ?_⟩
  obtain ⟨b, hb, e1, e2, e3⟩ := L2.paired_get pr e
  have q := entry_at he i
  rw [hb] at q
  have hi : i < es.size := (Array.getElem?_eq_some_iff.mp q).1
  have w : es[i] = _ := (Array.getElem?_eq_some_iff.mp q).2
  exact ⟨hi, b.2.1, by rw [w]; rfl, e2, by rw [w]; exact e3⟩
end
/-- the items of the locked dict at d, each in a new pair -/
def Itit (d : Addr) (o : Obj) (kvs : List (List L2.Key × V)) : It :=
  ⟨fun i H => H d = some (.frz o (.dT kvs)) ∧ i < kvs.length,
    fun i H x H2 => ∃ (N q : Addr) (k : List L2.Key) (v : V), kvs[i]? = some (k, v) ∧ H q = some (.tup (k.map kV)) ∧ x = .ref N ∧ H N = none ∧ H2 = upd H N (.tup [.ref q, v]),
    fun i H => H d = some (.frz o (.dT kvs)) ∧ kvs.length ≤ i⟩
theorem ep_of {o : Obj} {es es2 : Array DictEntry} {ep ep2 : Nat} (h : o.data = .dict es ep) (h2 : o.data = .dict es2 ep2) : es = es2 ∧ ep = ep2 := by
  rw [h] at h2
  cases h2
  exact ⟨rfl, rfl⟩
theorem turn_itemsT {P : Program} {w : World} {K : PySem.W.Frag} {kvs : List (List L2.Key × V)} {o : Obj} {d : Addr} {es : Array DictEntry} {ep : Nat} {elts : List Expr} {kk : Nat} {tpos : Pos} (it : Addr) (hod : o.data = .dict es ep) :
    Turn P w K (.Tuple elts kk tpos) (Itit d o kvs) [it] it (fun i h => ∃ u v, IsItemIter h it d i kvs.length ep u v) where
  mem := List.mem_cons_self
  obj := by
    rintro i h ⟨u, v, e⟩ b hb
    have z : b = it := by simpa using hb
    rw [z]
    exact ⟨_, e, fun v q => nomatch q⟩
  keep := fun i h h2 ⟨u, v, e⟩ k => ⟨u, v, k it (by simp) _ e⟩
  item := by
    rintro X rfl rfl rfl hc i pins s σ H E I hf ⟨ok, ov, he⟩ ⟨hd, hi⟩
    obtain ⟨hs, es2, ep2, hdt, raw, hz, ent⟩ := inv_frzT I hd
    obtain ⟨rfl, rfl⟩ := ep_of hod hdt
    obtain ⟨⟨k, v⟩, hkv⟩ : ∃ p, kvs[i]? = some p := ⟨kvs[i], List.getElem?_eq_getElem hi⟩
    obtain ⟨hi2, q, ekey, hq, rv⟩ := ent i k v hkv
    rw [← hz] at he
    have lt : it < s.heap.objs.size := Heap.lt_size he
    refine wpAny_pyNext_items_item_raw he raw hi2 fun h2 out hT _ hk => ?_
    refine ⟨_, rfl, wpAny_letOwnedTupleGo_items (s := { s with heap := h2 }) out fun h3 he3 sb => ?_⟩
    have hT3 := (sb.2 _ (Nat.ne_of_gt lt)).trans hT
    have new : ObjOk X.prog X.w (upd H s.heap.objs.size (.tup [.ref q, v])) h3 s.heap.objs.size (.tup [.ref q, v]) :=
      ⟨by show 2 ≤ sizeLine; decide, [es[i].key, es[i].val], .cons ekey (.cons rv .nil), ⟨_, hT3, rfl, _, rfl⟩⟩
    have I1 : Inv X pins σ (upd H s.heap.objs.size (.tup [.ref q, v])) { s with heap := h3 } :=
      I.turnedNew (t' := s.toks) (ch := [it]) (fun b ob hb e => (sb.2 b (by simpa using hb)).trans (hk b ob (by simpa using hb) e)) hf (Nat.le_refl _) new
    refine ⟨.ref s.heap.objs.size, _, I1, rfl, ⟨_, q, k, v, hkv, hq, rfl, I.hok.fresh (Nat.le_refl _), rfl⟩, ⟨es[i].key, es[i].val, by rw [← hz]; exact he3⟩, fun b hb => ?_⟩
    have z : b = it := by simpa using hb
    rw [z, upd_ne (Nat.ne_of_lt lt)]
    exact (hf it (by simp)).1
  done := by
    rintro X rfl rfl rfl hc i pins s σ H E I hf ⟨ok, ov, he⟩ ⟨hd, hi⟩
    obtain ⟨f0, f1, f2, f3, f4, f5⟩ := hf it (by simp)
    obtain ⟨hs, es2, ep2, hdt, raw, hz, ent⟩ := inv_frzT I hd
    obtain ⟨rfl, rfl⟩ := ep_of hod hdt
    rw [← hz] at he
    exact wpAny_pyNext_items_end_raw (I.ok.hd hc) he raw (by omega) fun h2 eb => ⟨rfl, I.turned (t' := s.toks) (fun b ob hb e => eb b ob hb e) f0 f1 f3 f4 f5⟩
  self := fun A i s Q E ⟨_, _, e⟩ h => PySem.W.kcp_self e h
def iItemsT (td : TE) : TI := fun σ H R => td σ H fun x H1 => ∃ d o kvs, x = .ref d ∧ H1 d = some (.frz o (.dT kvs)) ∧ R (Itit d o kvs) H1
theorem pi_itemsT {X : Cx} {e : Expr} {td : TE} {elts : List Expr} {kk : Nat} {tpos apos cpos : Pos} (he : PE X e td) (hbase : attributeBase e "items" X.env (eval e X.env) = eval e X.env := by rfl) (hline : (apos.endLine == cpos.line) = true := by rfl) :
    PI X (.Tuple elts kk tpos) (.Call (.Attribute e "items" apos) [] [] cpos) (iItemsT td) := by
  refine ⟨fun pins s σ H R I h => ?_⟩
  refine wpAny_Call_method (T := "dict") (id := "dict.items") hbase rfl hline F.plainAttrs_dict F.slot_dict_items F.type_dict_items (thn (he.run pins s σ H _ I h) ?_)
  rintro u s1 ⟨x, H1, I1, rx, d, o, kvs, rfl, hd, q⟩
  obtain rfl : u = Value.ref d := rx
  obtain ⟨hs, es, ep, hdt, raw, hz, ent⟩ := inv_frzT I1 hd
  have raw2 : DT.Raw s1.heap d es ep := raw
  refine ⟨raw2.typeIs, ?_, ?_⟩
  · intro b z
    cases z
    obtain ⟨ob, h1, h2, _⟩ := raw
    exact ⟨ob, h1, h2.2.1⟩
  · have I2 : Inv X pins σ H1 { s1 with heap := s1.heap.push { cls := .type "dict_items", data := .fields #[.ref d] } } := I1.kept (t' := s1.toks) fun b ob z => Heap.get?_push_of_some _ z
    have fin : wpAny (model X.prog X.w) X.A (pyIter (.ref s1.heap.objs.size)) (PIE X pins σ (.Tuple elts kk tpos) R) X.xe { s1 with heap := s1.heap.push { cls := .type "dict_items", data := .fields #[.ref d] } } := by
      refine DT.iterI (d := d) (es := es) (ep := ep) ⟨_, Heap.get?_push_size _ rfl, rfl, rfl⟩ (raw2.push _) (pi_one (tk := s1.toks) I2 _ (turn_itemsT _ hdt) ⟨.none, .none, ?_⟩ q)
      rw [← hz]
      exact Heap.get?_push_size _ rfl
    show wpAny _ _ (callWith cpos (.builtin "dict.items") [.ref d] [] []) _ X.xe s1
    exact method_meetsIn F.slot_dict_items F.entry_dict_items rfl (PySem.evalArgs_none ⟨rfl, raw2.typeIs, F.args_dict_items_1 _, _, DT.meetsItems (es := es) (ep := ep) hs, ⟨raw2, fin⟩⟩)
end M

/-! the loop over the items of a dict that doesn't change -/
namespace M
open PySem PySem.Spec PyProof.Rows L2
variable {X : Cx} {T : Tx} {W : WX} {a b c : Expr} {ma mb mc : ME} {mt mu : MT} {ms mv : MS} {pos : Pos} {st : Stmt} {rest sts : List Stmt}
variable {av av' : Av} {r r' r2 : List Addr} {H H' H2 : Hp} {m m' : Mem} {tg iter : Expr}
def nFrz : HO → Prop
  | .frz _ _ => False
  | _ => True
/-- what stands at p, a dict, is locked or let go -/
structure Lk (H : Hp) (p : Addr) (o : HO) : Prop where
  rd : ∀ u, nFrz u → Rd H p u → Rd (upd H p o) p u
  t : ∀ vs, H p ≠ some (.tup vs)
  i : ∀ c dx fs, H p ≠ some (.ins c dx fs)
  x : ∀ fs, H p ≠ some (.xd fs)
theorem Lk.at_ {p a : Addr} {o u : HO} (L : Lk H p o) (h : Rd H a u) (n : nFrz u := by trivial) : Rd (upd H p o) a u := by
  by_cases z : a = p
  · subst z; exact L.rd u n h
  · rcases h with h | ⟨o2, h⟩
    · exact .inl (by rw [upd_ne z]; exact h)
    · exact .inr ⟨o2, by rw [upd_ne z]; exact h⟩
mutual
theorem RV.relock {p : Addr} {o : HO} (L : Lk H p o) : ∀ (x : PV) {v : V}, RV T av r H x v → RV T av r (upd H p o) x v
  | .non, _, h => by unfold RV at *; exact h
  | .bl _, _, h => by unfold RV at *; exact h
  | .int _, _, h => by unfold RV at *; exact h
  | .str _, _, h => by unfold RV at *; exact h
  | .tup xs, _, h => by
    unfold RV at *
    obtain ⟨a, vs, e, h1, h2⟩ := h
    refine ⟨a, vs, e, ?_, RVs.relock L xs h2⟩
    rcases h1 with ⟨o, d⟩ | k
    · refine .inl ⟨o, ?_⟩
      have ne : a ≠ p := fun z => L.t vs (z ▸ d)
      rw [upd_ne ne]
      exact d
    · exact .inr k
  | .kst xs, _, h => by
    unfold RV at *
    obtain ⟨a, vs, e, k, h2⟩ := h
    exact ⟨a, vs, e, k, RVs.relock L xs h2⟩
  | .lst xs, _, h => by
    unfold RV at *
    obtain ⟨a, vs, e, o, d, h2⟩ := h
    refine ⟨a, vs, e, o, ?_, RVs.relock L xs h2⟩
    exact L.at_ d
  | .ins c ws, _, h => by
    unfold RV at *
    obtain ⟨a, dx, fs, e, o, d, n, h2⟩ := h
    exact ⟨a, dx, fs, e, o, by rw [upd_ne (fun z => L.i _ _ _ (z ▸ d))]; exact d, n, RVs.relock L ws h2⟩
  | .dtt ks ws, _, h => by
    unfold RV at *
    obtain ⟨a, kvs, e, o, d, nm, h2⟩ := h
    refine ⟨a, kvs, e, o, ?_, nm, RVs.relock L ws h2⟩
    exact L.at_ d
  | .exn c ws, _, h => by
    unfold RV at *
    obtain ⟨a, dx, fs, ex, e, o, d, n, h2⟩ := h
    exact ⟨a, dx, fs, ex, e, o, by rw [upd_ne (fun z => L.x _ (z ▸ d))]; exact d, n, RVs.relock L ws h2⟩
  | .dct ks ws, _, h => by
    unfold RV at *
    obtain ⟨a, vs, e, o, d, h2⟩ := h
    refine ⟨a, vs, e, o, ?_, RVs.relock L ws h2⟩
    rcases d with ⟨kvs, d, q⟩ | ⟨kvs, d, q⟩
    · exact .inl ⟨kvs, L.at_ d, q⟩
    · exact .inr ⟨kvs, L.at_ d, q⟩
  | .glo _, _, h => by unfold RV at *; exact h
  | .ref i, _, h => by unfold RV at *; exact h
theorem RVs.relock {p : Addr} {o : HO} (L : Lk H p o) : ∀ (xs : List PV) {vs : List V}, RVs T av r H xs vs → RVs T av r (upd H p o) xs vs
  | [], _, h => by unfold RVs at *; exact h
  | x :: xs, _, h => by
    unfold RVs at *
    obtain ⟨v, ws, e, h1, h2⟩ := h
    exact ⟨v, ws, e, RV.relock L x h1, RVs.relock L xs h2⟩
end

theorem RM.relock {p : Addr} {o : HO} (L : Lk H p o) (hp : p ∉ r) (hs : Solid (H p)) (h : RM T av r H m) (ho : nTbl o) (hu : nTup o) : RM T av r (upd H p o) m :=
  ⟨h.len, h.nd, fun i x a h1 h2 => by
    have ne : a ≠ p := fun z => hp (z ▸ List.mem_of_getElem? h2)
    have q := h.ob i x a h1 h2
    cases x with
    | lst xs => obtain ⟨vs, h1, h2⟩ := q; exact ⟨vs, by rw [upd_ne ne]; exact h1, RVs.relock L _ h2⟩
    | ins c ws => obtain ⟨dx, fs, h1, h2, h3, h4⟩ := q; exact ⟨dx, fs, by rw [upd_ne ne]; exact h1, h2, RVs.relock L _ h3, h4⟩
    | dtt ks ws => obtain ⟨kvs, h1, h2, h3⟩ := q; exact ⟨kvs, by rw [upd_ne ne]; exact h1, h2, RVs.relock L _ h3⟩
    | dnn ks ws => obtain ⟨xs, vs, h1, h2, h3, h4, h5⟩ := q; exact ⟨xs, vs, by rw [upd_ne ne]; exact h1, h2, RVs.relock L _ h3, RVs.relock L _ h4, h5⟩
    | dct ks ws => obtain ⟨vs, h1, h2⟩ := q; exact ⟨vs, dm_upd ne h1, RVs.relock L _ h2⟩, fun q hq => tab_upd hs (h.tb q hq), fun a ha => by
    by_cases z : a = p
    · subst z; exact ⟨o, upd_same, ho⟩
    · obtain ⟨u, e, t⟩ := h.th a ha
      exact ⟨u, by rw [upd_ne z]; exact e, t⟩, fun a ha vs e => by
    by_cases z : a = p
    · subst z
      rw [upd_same] at e
      exact nTup_ne hu (Option.some.inj e)
    · rw [upd_ne z] at e
      exact h.nt a ha vs e⟩
theorem lk_lock {p : Addr} {od : Obj} {kvs : List (List L2.Key × V)} (h : H p = some (.dT kvs)) : Lk H p (.frz od (.dT kvs)) where
  rd := fun u _ q => by
    rcases q with q | ⟨o2, q⟩
    · rw [h] at q; cases q; exact .inr ⟨od, upd_same⟩
    · rw [h] at q; cases q
  t := fun vs q => by rw [h] at q; cases q
  i := fun _ _ _ q => by rw [h] at q; cases q
  x := fun _ q => by rw [h] at q; cases q
theorem lk_free {p : Addr} {od : Obj} {kvs : List (List L2.Key × V)} (h : H p = some (.frz od (.dT kvs))) : Lk H p (.dT kvs) where
  rd := fun u n q => by
    rcases q with q | ⟨o2, q⟩
    · rw [h] at q; cases q
      exact n.elim
    · rw [h] at q; cases q; exact .inl upd_same
  t := fun vs q => by rw [h] at q; cases q
  i := fun _ _ _ q => by rw [h] at q; cases q
  x := fun _ q => by rw [h] at q; cases q
/-! ### the loop -/
def itmI (ks : List (List L2.Key)) (ws : List PV) : MI := fun _ i => some (match ks[i]?, ws[i]? with
  | some k, some w => some (.tup [.tup (k.map keyP), w])
  | _, _ => none)
theorem rvs_key : ∀ k : List L2.Key, RVs T av r H (k.map keyP) (k.map kV)
  | [] => by show RVs T av r H [] []; unfold RVs; rfl
  | k :: ks => by
    show RVs T av r H (keyP k :: ks.map keyP) (kV k :: ks.map kV)
    unfold RVs
    refine ⟨_, _, rfl, ?_, rvs_key ks⟩
    cases k with
    | inl i => exact rv_int
    | inr s => show RV T av r H (.str s) (.str s); unfold RV; rfl
theorem iok_itm {a : Addr} {o : Obj} {kvs : List (List L2.Key × V)} {ks : List (List L2.Key)} {ws : List PV} (ho : Out av r a) (hd : H a = some (.frz o (.dT kvs))) (hk : kvs.map (·.1) = ks) (hv : RVs T av r H ws (kvs.map (·.2))) : IOk T av r H (itmI ks ws) (Itit a o kvs) := fun av' r' H' m' i hw g rm => by
  have hv' := RVs.growA g _ (RVs.widen hw _ hv)
  have na : ¬ av' a := fun z => (hw a z).elim ho.1 fun z => z ⟨_, hd, trivial⟩
  have d' : H' a = some (.frz o (.dT kvs)) := g.keep a _ hd na ho.2 (fun ps z => by cases z)
  have hl := hv'.length
  rw [List.length_map] at hl
  subst hk
  show match itmI (kvs.map (·.1)) ws m' i with
    | none => True
    | some none => _
    | some (some x) => _
  unfold itmI
  cases q : kvs[i]? with
  | none =>
    rw [List.getElem?_map, q]
    exact ⟨d', List.getElem?_eq_none_iff.mp q⟩
  | some kv =>
    have lt : i < kvs.length := (List.getElem?_eq_some_iff.mp q).1
    have lt2 : i < ws.length := by omega
    rw [List.getElem?_map, q, List.getElem?_eq_getElem lt2]
    obtain ⟨w, hw1, rw1⟩ := hv'.get (List.getElem?_eq_getElem lt2)
    rw [List.getElem?_map, q] at hw1
    cases hw1
    refine ⟨⟨d', lt⟩, fun v H2 y => ?_⟩
    obtain ⟨N, q1, k, z, e1, hq, rfl, hN, rfl⟩ := y
    rw [q] at e1
    cases e1
    refine ⟨r', grow_upd hN, rm.pass hN, rv_newT rm hN ?_⟩
    unfold RVs
    refine ⟨_, _, rfl, ?_, by unfold RVs; exact ⟨_, [], rfl, rw1, by unfold RVs; rfl⟩⟩
    unfold RV
    exact ⟨q1, _, rfl, .inl ⟨rm.tupOut hq, hq⟩, rvs_key k⟩
theorem for_core {ts : List Nat} {mg : MG} {it : MI} {J : It} {D : Ends} {r1 : List Addr} {H1 : Hp} {e : Env} {σ : L2.St} {m1 : Mem} (iok : IOk T av r1 H1 it J) (re : RE T av r1 H1 e σ) (rm1 : RM T av r1 H1 m1) (h : okS T av r1 H1 W D (forL mg ms it FUEL 0 e m1)) :
    ∃ Wp : Nat → Nat → L2.St → Hp → Prop, (∃ n, Wp 0 n σ H1) ∧ ∀ i n σ H, Wp i n σ H →
      (J.stop i H ∧ D.nx σ H) ∨ (J.go i H ∧ ∃ N : L2.St → Hp → Prop, (∀ σ' H', N σ' H' → ∃ m', m' < n ∧ Wp (i + 1) m' σ' H') ∧ ∀ x H', J.yld i H x H' → tG T ts mg x σ H' fun σ2 H2 => tS T W ms { D with nx := N, ct := N, bk := D.nx } σ2 H2) := by
  refine ⟨fun i n σ2 H2 => ∃ r2 e2 m2, Grow r1 H1 r2 H2 ∧ RE T av r2 H2 e2 σ2 ∧ RM T av r2 H2 m2 ∧ okS T av r2 H2 W D (forL mg ms it n i e2 m2), ⟨FUEL, r1, e, m1, .refl, re, rm1, h⟩, fun i n σ2 H2 hW => ?_⟩
  obtain ⟨r2, e2, m2, g2, re2, rm2, h2⟩ := hW
  cases n with
  | zero => exact h2.elim
  | succ n =>
    have hio := iok av r2 H2 m2 i (fun _ z => .inl z) g2.toA rm2
    unfold forL at h2
    split at h2
    · exact h2.elim
    · rename_i hit
      rw [hit] at hio
      exact .inl ⟨hio, h2 r2 H2 σ2 .refl rm2 re2⟩
    · rename_i x hit
      rw [hit] at hio
      refine .inr ⟨hio.1, fun σ' H' => ∃ m', m' < n + 1 ∧ ∃ r3 e3 m3, Grow r1 H1 r3 H' ∧ RE T av r3 H' e3 σ' ∧ RM T av r3 H' m3 ∧ okS T av r3 H' W D (forL mg ms it m' (i + 1) e3 m3), fun σ' H' h => h, fun v H3 y => ?_⟩
      obtain ⟨r3, g3, rm3, rv3⟩ := hio.2 v H3 y
      refine ⟨av, r3, e2, m2, x, re2.grow g3, rm3, rv3, ?_⟩
      split at h2
      · rename_i e4 m4 hmg
        rw [hmg]
        intro r4 H4 σ4 g4 rm4 re4 _
        refine ⟨av, r4, e4, m4, re4, rm4, ?_⟩
        have g34 := g3.trans g4
        refine okS_turn (D := D) (f := forL mg ms it n (i + 1)) (fun e5 m5 r5 H5 σ5 h g5 rm5 re5 => ?_) ?_ ?_ ?_ (h2.grow g34)
        · exact ⟨n, Nat.lt_succ_self n, r5, e5, m5, (g2.trans g34).trans g5, re5, rm5, h.grow g5⟩
        · rfl
        · rfl
        · rfl
      · exact h2.elim
/-- no exception comes out -/
def calmS : SRes → SRes
  | .exc _ _ _ _ => .bad
  | x => x
def mForIt (i : Nat) (mg : MG) (body : MS) : MS := fun e m => match e[i]? with
  | some (some (.dtt ks ws)) => calmS (forL mg body (itmI ks ws) FUEL 0 e m)
  | _ => .bad
theorem okS_uncalm {D : Ends} : ∀ {x : SRes}, okS T av r H W D (calmS x) → okS T av r H W D x
  | .nx _ _, h => h
  | .bk _ _, h => h
  | .ct _ _, h => h
  | .rt _ _, h => h
  | .exc _ _ _ _, h => h.elim
  | .bad, h => h.elim
section
variable {a : Addr} {od : Obj} {kvs : List (List L2.Key × V)}
theorem locked_keep (ho : Out av r a) (g : Grow r (upd H a (.frz od (.dT kvs))) r' H') : H' a = some (.frz od (.dT kvs)) ∧ a ∉ r' := by
  refine ⟨g.keep a _ upd_same ho.2 (fun ps z => by cases z), fun z => ?_⟩
  obtain ⟨more, e, f⟩ := g.ext
  rw [e] at z
  rcases List.mem_append.mp z with z | z
  · exact ho.2 z
  · exact f a z ⟨_, upd_same, trivial⟩
theorem grow_lock (d : H a = some (.dT kvs)) (ho : Out av r a) (g : Grow r (upd H a (.frz od (.dT kvs))) r' H') : Grow r H r' (upd H' a (.dT kvs)) := by
  have up : ∀ b, Hard H b → Hard (upd H a (.frz od (.dT kvs))) b := fun b ⟨u, e, t⟩ => by
    by_cases z : b = a
    · subst z; exact ⟨_, upd_same, trivial⟩
    · exact ⟨u, by rw [upd_ne z]; exact e, t⟩
  obtain ⟨more, e, f⟩ := g.ext
  refine ⟨⟨more, e, fun b hb z => f b hb (up b z)⟩, fun b o e n t => ?_, fun b hb => ?_⟩
  · by_cases z : b = a
    · subst z
      rw [d] at e
      cases e
      exact upd_same
    · rw [upd_ne z]
      exact g.keep b o (by rw [upd_ne z]; exact e) n t
  · by_cases z : b = a
    · subst z; exact ⟨_, upd_same, trivial⟩
    · obtain ⟨u, e, t⟩ := g.there b (up b hb)
      exact ⟨u, by rw [upd_ne z]; exact e, t⟩
theorem okS_lock {D : Ends} (d : H a = some (.dT kvs)) (ho : Out av r a) : ∀ {x : SRes}, okS T av r H W D (calmS x) →
    okS T av r (upd H a (.frz od (.dT kvs))) W ⟨fun σ' H' => H' a = some (.frz od (.dT kvs)) ∧ D.nx σ' (upd H' a (.dT kvs)), fun v H' => H' a = some (.frz od (.dT kvs)) ∧ D.rt v (upd H' a (.dT kvs)), fun σ' H' => H' a = some (.frz od (.dT kvs)) ∧ D.bk σ' (upd H' a (.dT kvs)), fun σ' H' => H' a = some (.frz od (.dT kvs)) ∧ D.ct σ' (upd H' a (.dT kvs))⟩ x
  | .nx _ _, h => fun r2 H2 σ2 g rm re => by
    obtain ⟨d2, n2⟩ := locked_keep ho g
    exact ⟨d2, h r2 _ σ2 (grow_lock d ho g) (rm.relock (lk_free d2) n2 (by rw [d2]; trivial) trivial trivial) (RE.map (fun _ _ q => RV.relock (lk_free d2) _ q) re)⟩
  | .bk _ _, h => fun r2 H2 σ2 g rm re => by
    obtain ⟨d2, n2⟩ := locked_keep ho g
    exact ⟨d2, h r2 _ σ2 (grow_lock d ho g) (rm.relock (lk_free d2) n2 (by rw [d2]; trivial) trivial trivial) (RE.map (fun _ _ q => RV.relock (lk_free d2) _ q) re)⟩
  | .ct _ _, h => fun r2 H2 σ2 g rm re => by
    obtain ⟨d2, n2⟩ := locked_keep ho g
    exact ⟨d2, h r2 _ σ2 (grow_lock d ho g) (rm.relock (lk_free d2) n2 (by rw [d2]; trivial) trivial trivial) (RE.map (fun _ _ q => RV.relock (lk_free d2) _ q) re)⟩
  | .rt _ _, h => fun r2 H2 w g rm rv => by
    obtain ⟨d2, n2⟩ := locked_keep ho g
    exact ⟨d2, h r2 _ w (grow_lock d ho g) (rm.relock (lk_free d2) n2 (by rw [d2]; trivial) trivial trivial) (RV.relock (lk_free d2) _ rv)⟩
  | .exc _ _ _ _, h => h.elim
  | .bad, h => h.elim
end
theorem ss_forIt (i : Nat) {x : Str} {p1 apos cpos tpos : Pos} {elts : List Expr} {kk : Nat} {ts : List Nat} {mg : MG} (hp : PassesOwn (model X.prog X.w) X.A X.env X.xe) (hc : X.calm = true) (hN : X.N[i]? = some x) (hv : Vis X.env.scope x)
    (hg : SG X T ts (.Tuple elts kk tpos) mg) (hb : SB X T W rest ms) (hd : (x == ("__debug__" : Str)) = false := by decide) (hcd : (x == ("__classdict__" : Str)) = false := by decide)
    (hbase : attributeBase (.Name x p1) "items" X.env (eval (.Name x p1) X.env) = eval (.Name x p1) X.env := by rfl) (hline : (apos.endLine == cpos.line) = true := by rfl) (hs : ∀ z, foldedSetIterable (.Call (.Attribute (.Name x p1) "items" apos) [] [] cpos) X.env z = pure z := by intro _; rfl) :
    SS X T W (.For (.Tuple elts kk tpos) (.Call (.Attribute (.Name x p1) "items" apos) [] [] cpos) rest [] pos) (mForIt i mg ms) := by
  have P := ps_for (pos := pos) hp hc (pi_itemsT (elts := elts) (kk := kk) (tpos := tpos) (pe_var (pos := p1) hN hv hd hcd) hbase hline) hg.pg hb.ps hs
  refine ⟨PS.imp (M.PS.either (ps_lock P) P) fun D σ H ⟨av, r, e, m, re, rm, h⟩ => ?_⟩
  unfold mForIt at h
  split at h
  · rename_i ks ws hx
    obtain ⟨w, hw, rv⟩ := re.get hx
    have rv0 := rv
    unfold RV at rv
    obtain ⟨a, kvs, rfl, ho, d, nm, hvs⟩ := rv
    rcases d with d | ⟨o, d⟩
    · refine .inl ⟨a, .dT kvs, d, trivial, fun od => ?_⟩
      have L : Lk H a (.frz od (.dT kvs)) := lk_lock d
      exact ⟨.ref a, hw, a, od, kvs, rfl, upd_same, for_core (iok_itm ho upd_same nm (RVs.relock L _ hvs)) (RE.map (fun _ _ q => RV.relock L _ q) re) (rm.relock L ho.2 (by rw [d]; trivial) trivial trivial) (okS_lock d ho h)⟩
    · exact .inr ⟨.ref a, hw, a, o, kvs, rfl, d, for_core (iok_itm ho d nm hvs) re rm (okS_uncalm h)⟩
  · exact h.elim
end M

/-! a, b = x, y -/
namespace M
open PySem PySem.Spec PyProof.Rows L2
variable {X : Cx} {T : Tx} {W : WX} {a b c : Expr} {pos : Pos}
def mPar (i j : Nat) (mr : MA) : MS := fun e m => sB (mr e m) e fun vs m1 => match vs with
  | [x, y] => .nx ((e.set i (some x)).set j (some y)) m1
  | _ => .bad
theorem ss_par (i j : Nat) {x y : Str} {px py pt : Pos} {kt k2 pt2} {mr : MA} (hc : X.calm = true) (hN : X.N.Nodup) (hi : X.N[i]? = some x) (hj : X.N[j]? = some y) (hij : i ≠ j)
    (hx : X.env.scope.names.lookup x = some .local) (hy : X.env.scope.names.lookup y = some .local) (ha : SA X T W [a, b] mr)
    (hw : swappedStores [.Tuple [.Name x px, .Name y py] kt pt] (.Tuple [a, b] k2 pt2) X.env = pure (some [x, y]) := by rfl)
    (hs : swapsWithSole [.Tuple [.Name x px, .Name y py] kt pt] (.Tuple [a, b] k2 pt2) pos.line X.env = pure false := by rfl) :
    SS X T W (.Assign [.Tuple [.Name x px, .Name y py] kt pt] (.Tuple [a, b] k2 pt2) pos) (mPar i j mr) :=
  ⟨PS.imp (ps_par hc hN hi hj hij hx hy ha.pa hw hs) fun D σ H ⟨av, r, e, m, re, rm, h⟩ => ⟨av, r, e, m, re, rm, okR_imp (okS_sB re h) fun vs m1 h r1 H1 ws g1 rm1 rv => by
    split at h
    · obtain ⟨v, w, rfl, hv, hw⟩ := rvs2 rv
      exact ⟨v, w, rfl, h r1 H1 _ g1 rm1 (((re.grow g1).set hv i).set hw j)⟩
    · exact h.elim⟩⟩
end M

/-! dicts with keys that are ints or texts: get with a default; entries written out; walks -/
namespace M
open PySem PySem.Spec PyProof.Rows L2
variable {X : Cx} {T : Tx} {W : WX} {a b c : Expr} {ma mb mc : ME} {mt mu : MT} {ms mv : MS} {pos : Pos} {st : Stmt} {rest sts : List Stmt}
variable {av av' : Av} {r r' r2 : List Addr} {H H' H2 : Hp} {m m' : Mem} {tg iter : Expr}
def isDctK (x : PV) (m : Mem) : Bool := match dctOf x m with
  | some (ks, _) => flatKs ks
  | none => false
theorem isDctK_ok {x : PV} {v : V} (rm : RM T av r H m) (rv : RV T av r H x v) (h : isDctK x m = true) : ∃ a, v = .ref a ∧ IsD H a := by
  unfold isDctK at h
  split at h
  · rename_i ks ws hd
    obtain ⟨a, vs, rfl, d, _⟩ := dctOf_ok rm rv hd
    obtain ⟨kvs, h1, _⟩ := dk_flat d h
    exact ⟨a, rfl, .inl ⟨kvs, h1⟩⟩
  · cases h
/-- d.get(k, x) -/
def mGet2K (md mk mx : ME) : ME := fun e m => (md e m).bind fun x m1 => if isDctK x m1 then (mk e m1).bind fun y m2 => (mx e m2).bind fun z m3 => match lookP x y m3 with
  | some (some w) => .ok w m3
  | some none => .ok z m3
  | none => .bad
  else .bad
theorem se_get2K (hu : X.A.units + 1 < cLine) {apos : Pos} (ha : SE X T W a ma) (hb : SE X T W b mb) (hc : SE X T W c mc) (m2 : M2 X a "get" apos b c pos) : SE X T W (.Call (.Attribute a "get" apos) [b, c] [] pos) (mGet2K ma mb mc) :=
  ⟨PE.imp (pe_dget2 hu ha.pe hb.pe hc.pe m2) fun σ H Q ⟨av, r, e, m, re, rm, h⟩ =>
    ⟨av, r, e, m, re, rm, okR_imp (okR_bind h) fun x m1 k1 r1 H1 v g1 rm1 rv => by
      split at k1
      · rename_i hd
        obtain ⟨d, rfl, hD⟩ := isDctK_ok rm1 rv hd
        refine ⟨d, rfl, hD, av, r1, e, m1, re.grow g1, rm1, okR_grow g1 (fun y m2 k2 r2 H2 w g2 rm2 rw2 => ?_) (okR_bind k1)⟩
        refine ⟨av, r2, e, m2, re.grow (g1.trans g2), rm2, okR_grow (g1.trans g2) (fun z m3 k3 r3 H3 u g3 rm3 ru => ?_) (okR_bind k2)⟩
        split at k3
        · rename_i w0 hl
          obtain ⟨a0, z0, e0, hg, q, rfl, hq⟩ := lookP_ok rm3 (rv.grow (g2.trans g3)) (rw2.grow g3) hl
          cases e0
          exact ⟨_, hg, k3 r3 H3 _ ((g1.trans g2).trans g3) rm3 hq⟩
        · rename_i hl
          obtain ⟨a0, z0, e0, hg, hz⟩ := lookP_ok rm3 (rv.grow (g2.trans g3)) (rw2.grow g3) hl
          cases e0
          cases (show z0 = none from hz)
          exact ⟨_, hg, k3 r3 H3 _ ((g1.trans g2).trans g3) rm3 ru⟩
        · exact k3.elim
      · exact k1.elim⟩⟩
/-! ### {k: v}, k an int or a text -/
def mOneK (ma mb : ME) : MD := fun e m => (ma e m).bind fun x m1 => (mb e m1).bind fun y m2 => match keyOf x with
  | some k => .ok ([keyP k], [y]) m2
  | none => .bad
theorem sd_one (ha : SE X T W a ma) (hb : SE X T W b mb) : SD X T W (.Dict [some a] [b] pos) (mOneK ma mb) := by
  have P := pe_disp (pos := pos) (pps_cons (pos := pos) ha.pe hb.pe pps_nil) (by rfl) (by rfl) (by simp) (by show 1 ≤ 15; decide)
  refine ⟨PE.imp P fun σ H Q ⟨av, r, e, m, re, rm, h⟩ p hp => ?_⟩
  have g1 : Grow r H r (upd H p (.dK [])) := grow_upd hp
  have re1 : RE T (Avp av p) r (upd H p (.dK [])) e σ := RE.map (fun x v q => RV.away hp x q) re
  have rm1 : RM T (Avp av p) r (upd H p (.dK [])) m := rm.away (o := .dK []) hp
  refine ⟨Avp av p, r, e, m, re1, rm1, okR_near (okR_grow g1 (fun x m1 k1 => ?_) (okR_bind h))⟩
  intro r1 H1 v g2 rm2 rv
  refine ⟨Avp av p, r1, e, m1, re1.grow g2, rm2, okR_near (okR_grow (g1.trans g2) (fun y m2 k2 => ?_) (okR_bind k1))⟩
  intro r2 H2 w g3 rm3 rw2
  have g23 := g2.trans g3
  have d : H2 p = some (.dK []) := g23.keep p _ upd_same (rm.fresh hp) (fun ps z => by cases z)
  have np : p ∉ r2 := fun z => by
    obtain ⟨more, e1, f1⟩ := g23.ext
    rw [e1] at z
    rcases List.mem_append.mp z with z | z
    · exact rm.fresh hp z
    · exact f1 p z ⟨_, upd_same, trivial⟩
  split at k2
  · rename_i k hk
    have ev : v = kV k := keyOf_ok hk rv
    subst ev
    refine ⟨d, [(k, w)], rfl, by show 1 ≤ 15; decide, ?_⟩
    have me : mergeK [] [(k, w)] = [(k, w)] := rfl
    rw [me]
    exact k2 r2 _ p [(k, w)] (grow_rw (soft hp) (g1.trans g23)) (soft hp) np upd_same rfl (rm3.rewrite np (by rw [d]; trivial)) (by
      show RVs T (Avp av p) r2 _ [y] [w]
      unfold RVs
      exact ⟨w, [], rfl, rw2.rewrite, by unfold RVs; rfl⟩)
  · exact k2.elim
end M

/-! walks over plain dicts: keys, values, items; locked meanwhile -/
namespace M
open PySem PySem.Spec PyProof.Rows L2
variable {X : Cx} {T : Tx} {W : WX} {a b c : Expr} {ma mb mc : ME} {mt mu : MT} {ms mv : MS} {pos : Pos} {st : Stmt} {rest sts : List Stmt}
variable {av av' : Av} {r r' r2 : List Addr} {H H' H2 : Hp} {m m' : Mem} {tg iter : Expr}
/-- a dict -/
def DU : HO → Prop
  | .dK _ => True
  | .dT _ => True
  | _ => False
theorem DU.tb {u : HO} (h : DU u) : nTbl u := by cases u <;> first | trivial | exact h.elim
theorem DU.tu {u : HO} (h : DU u) : nTup u := by cases u <;> first | trivial | exact h.elim
theorem DU.mut {u : HO} (h : DU u) : Mut (some u) := by cases u <;> first | trivial | exact h.elim
theorem DU.solid {u : HO} (h : DU u) : Solid (some u) := by cases u <;> first | trivial | exact h.elim
theorem DU.ne {u : HO} (h : DU u) {o : HO} (n : nTbl o) : ∀ ps, u ≠ .tbl ps := fun ps z => by subst z; exact h.elim
theorem lkU_lock {p : Addr} {od : Obj} {u0 : HO} (hu : DU u0) (h : H p = some u0) : Lk H p (.frz od u0) where
  rd := fun u _ q => by
    rcases q with q | ⟨o2, q⟩
    · rw [h] at q; cases q; exact .inr ⟨od, upd_same⟩
    · rw [h] at q; cases q; exact hu.elim
  t := fun vs q => by rw [h] at q; cases q; exact hu.elim
  i := fun _ _ _ q => by rw [h] at q; cases q; exact hu.elim
  x := fun _ q => by rw [h] at q; cases q; exact hu.elim
theorem lkU_free {p : Addr} {od : Obj} {u0 : HO} (hu : DU u0) (h : H p = some (.frz od u0)) : Lk H p u0 where
  rd := fun u n q => by
    rcases q with q | ⟨o2, q⟩
    · rw [h] at q; cases q
      exact n.elim
    · rw [h] at q; cases q; exact .inl upd_same
  t := fun vs q => by rw [h] at q; cases q
  i := fun _ _ _ q => by rw [h] at q; cases q
  x := fun _ q => by rw [h] at q; cases q
section
variable {a : Addr} {od : Obj} {u0 : HO}
theorem lockedU (ho : Out av r a) (g : Grow r (upd H a (.frz od u0)) r' H') : H' a = some (.frz od u0) ∧ a ∉ r' := by
  refine ⟨g.keep a _ upd_same ho.2 (fun ps z => by cases z), fun z => ?_⟩
  obtain ⟨more, e, f⟩ := g.ext
  rw [e] at z
  rcases List.mem_append.mp z with z | z
  · exact ho.2 z
  · exact f a z ⟨_, upd_same, trivial⟩
theorem growU (hu : DU u0) (d : H a = some u0) (ho : Out av r a) (g : Grow r (upd H a (.frz od u0)) r' H') : Grow r H r' (upd H' a u0) := by
  have up : ∀ b, Hard H b → Hard (upd H a (.frz od u0)) b := fun b ⟨u, e, t⟩ => by
    by_cases z : b = a
    · subst z; exact ⟨_, upd_same, trivial⟩
    · exact ⟨u, by rw [upd_ne z]; exact e, t⟩
  obtain ⟨more, e, f⟩ := g.ext
  refine ⟨⟨more, e, fun b hb z => f b hb (up b z)⟩, fun b o e n t => ?_, fun b hb => ?_⟩
  · by_cases z : b = a
    · subst z
      rw [d] at e
      cases e
      exact upd_same
    · rw [upd_ne z]
      exact g.keep b o (by rw [upd_ne z]; exact e) n t
  · by_cases z : b = a
    · subst z; exact ⟨_, upd_same, hu.tb⟩
    · obtain ⟨u, e, t⟩ := g.there b (up b hb)
      exact ⟨u, by rw [upd_ne z]; exact e, t⟩
theorem okU {D : Ends} (hu : DU u0) (d : H a = some u0) (ho : Out av r a) : ∀ {x : SRes}, okS T av r H W D (calmS x) →
    okS T av r (upd H a (.frz od u0)) W ⟨fun σ' H' => H' a = some (.frz od u0) ∧ D.nx σ' (upd H' a u0), fun v H' => H' a = some (.frz od u0) ∧ D.rt v (upd H' a u0), fun σ' H' => H' a = some (.frz od u0) ∧ D.bk σ' (upd H' a u0), fun σ' H' => H' a = some (.frz od u0) ∧ D.ct σ' (upd H' a u0)⟩ x
  | .nx _ _, h => fun r2 H2 σ2 g rm re => by
    obtain ⟨d2, n2⟩ := lockedU ho g
    exact ⟨d2, h r2 _ σ2 (growU hu d ho g) (rm.relock (lkU_free hu d2) n2 (by rw [d2]; trivial) hu.tb hu.tu) (RE.map (fun _ _ q => RV.relock (lkU_free hu d2) _ q) re)⟩
  | .bk _ _, h => fun r2 H2 σ2 g rm re => by
    obtain ⟨d2, n2⟩ := lockedU ho g
    exact ⟨d2, h r2 _ σ2 (growU hu d ho g) (rm.relock (lkU_free hu d2) n2 (by rw [d2]; trivial) hu.tb hu.tu) (RE.map (fun _ _ q => RV.relock (lkU_free hu d2) _ q) re)⟩
  | .ct _ _, h => fun r2 H2 σ2 g rm re => by
    obtain ⟨d2, n2⟩ := lockedU ho g
    exact ⟨d2, h r2 _ σ2 (growU hu d ho g) (rm.relock (lkU_free hu d2) n2 (by rw [d2]; trivial) hu.tb hu.tu) (RE.map (fun _ _ q => RV.relock (lkU_free hu d2) _ q) re)⟩
  | .rt _ _, h => fun r2 H2 w g rm rv => by
    obtain ⟨d2, n2⟩ := lockedU ho g
    exact ⟨d2, h r2 _ w (growU hu d ho g) (rm.relock (lkU_free hu d2) n2 (by rw [d2]; trivial) hu.tb hu.tu) (RV.relock (lkU_free hu d2) _ rv)⟩
  | .exc _ _ _ _, h => h.elim
  | .bad, h => h.elim
end

def mWalk (i : Nat) (mi : List PV → List PV → MI) (mg : MG) (ms : MS) : MS := fun e m => match e[i]? with
  | some (some (.dct ks ws)) => if flatKs ks then calmS (forL mg ms (mi ks ws) FUEL 0 e m) else .bad
  | _ => .bad
/-- a walk over the locked dict that a name holds, as a statement's loop -/
theorem ps_walk {i : Nat} {ts : List Nat} {mg : MG} {J : Addr → Obj → List (L2.Key × V) → It} {mi : List PV → List PV → MI}
    (P : PS X st (tFor (fun σ H R => tVar i σ H fun x H1 => ∃ (d : Addr) (o : Obj) (kvs : List (L2.Key × V)), x = .ref d ∧ H1 d = some (.frz o (.dK kvs)) ∧ R (J d o kvs) H1) (tG T ts mg) (tS T W ms)))
    (iok : ∀ {av : Av} {r : List Addr} {H : Hp} {a : Addr} {o : Obj} {kvs : List (L2.Key × V)} {ws : List PV}, Out av r a → H a = some (.frz o (.dK kvs)) → RVs T av r H ws (kvs.map (·.2)) → IOk T av r H (mi (ksOf kvs) ws) (J a o kvs)) :
    SS X T W st (mWalk i mi mg ms) := by
  refine ⟨PS.imp (M.PS.either (ps_lock P) P) fun D σ H ⟨av, r, e, m, re, rm, h⟩ => ?_⟩
  unfold mWalk at h
  split at h
  · rename_i ks ws hx
    split at h
    · rename_i hf
      obtain ⟨w, hw, rv⟩ := re.get hx
      unfold RV at rv
      obtain ⟨a, vs, rfl, ho, d, hvs⟩ := rv
      obtain ⟨kvs, h1, rfl, rfl⟩ := dk_flat d hf
      rcases h1 with d | ⟨o, d⟩
      · refine .inl ⟨a, .dK kvs, d, trivial, fun od => ?_⟩
        have hu : DU (.dK kvs) := trivial
        have L : Lk H a (.frz od (.dK kvs)) := lkU_lock hu d
        exact ⟨.ref a, hw, a, od, kvs, rfl, upd_same, for_core (iok ho upd_same (RVs.relock L _ hvs)) (RE.map (fun _ _ q => RV.relock L _ q) re) (rm.relock L ho.2 (by rw [d]; trivial) trivial trivial) (okU hu d ho h)⟩
      · exact .inr ⟨.ref a, hw, a, o, kvs, rfl, d, for_core (iok ho d hvs) re rm (okS_uncalm h)⟩
    · exact h.elim
  · exact h.elim
section
variable {o : Obj} {kvs : List (L2.Key × V)} {ws : List PV} {p : Addr}
theorem walk_at {av' : Av} (ho : Out av r p) (hd : H p = some (.frz o (.dK kvs))) (hw : ∀ a, av' a → av a ∨ ¬ Hard H a) (g : GrowA av' r H r' H') : H' p = some (.frz o (.dK kvs)) :=
  g.keep p _ hd (fun z => (hw p z).elim ho.1 fun z => z ⟨_, hd, trivial⟩) ho.2 (fun ps z => by cases z)
theorem rv_key (k : L2.Key) : RV T av r H (keyP k) (kV k) := by
  cases k with
  | inl i => exact rv_int
  | inr s => show RV T av r H (.str s) (.str s); unfold RV; rfl
def wKeys : List PV → List PV → MI := fun ks _ => fun _ i => some ks[i]?
def wVals : List PV → List PV → MI := fun _ ws => fun _ i => some ws[i]?
def wItems : List PV → List PV → MI := fun ks ws => fun _ i => some (match ks[i]?, ws[i]? with
  | some k, some w => some (.tup [k, w])
  | _, _ => none)
theorem iok_wKeys (ho : Out av r p) (hd : H p = some (.frz o (.dK kvs))) (hv : RVs T av r H ws (kvs.map (·.2))) : IOk T av r H (wKeys (ksOf kvs) ws) (Itk p o kvs) := fun av' r' H' m' i hw g rm => by
  have d' := walk_at ho hd hw g
  show match wKeys (ksOf kvs) ws m' i with
    | none => True
    | some none => _
    | some (some x) => _
  unfold wKeys ksOf
  rw [List.getElem?_map]
  cases q : kvs[i]? with
  | none => exact ⟨d', List.getElem?_eq_none_iff.mp q⟩
  | some kv =>
    refine ⟨⟨d', (List.getElem?_eq_some_iff.mp q).1⟩, fun v H2 y => ?_⟩
    obtain ⟨rfl, k, z, e, rfl⟩ := y
    rw [q] at e
    cases e
    exact ⟨r', .refl, rm, rv_key k⟩
theorem iok_wVals (ho : Out av r p) (hd : H p = some (.frz o (.dK kvs))) (hv : RVs T av r H ws (kvs.map (·.2))) : IOk T av r H (wVals (ksOf kvs) ws) (Itd p o kvs) := fun av' r' H' m' i hw g rm => by
  have d' := walk_at ho hd hw g
  have hv' := RVs.growA g _ (RVs.widen hw _ hv)
  have hl := hv'.length
  rw [List.length_map] at hl
  show match wVals (ksOf kvs) ws m' i with
    | none => True
    | some none => _
    | some (some x) => _
  unfold wVals
  cases q : ws[i]? with
  | none => exact ⟨d', by have := List.getElem?_eq_none_iff.mp q; omega⟩
  | some w =>
    obtain ⟨z, hz, rz⟩ := hv'.get q
    refine ⟨⟨d', by have := (List.getElem?_eq_some_iff.mp q).1; omega⟩, fun v H2 y => ?_⟩
    obtain ⟨rfl, k, e⟩ := y
    rw [List.getElem?_map, e] at hz
    cases hz
    exact ⟨r', .refl, rm, rz⟩
theorem iok_wItems (ho : Out av r p) (hd : H p = some (.frz o (.dK kvs))) (hv : RVs T av r H ws (kvs.map (·.2))) : IOk T av r H (wItems (ksOf kvs) ws) (Iti p o kvs) := fun av' r' H' m' i hw g rm => by
  have d' := walk_at ho hd hw g
  have hv' := RVs.growA g _ (RVs.widen hw _ hv)
  have hl := hv'.length
  rw [List.length_map] at hl
  show match wItems (ksOf kvs) ws m' i with
    | none => True
    | some none => _
    | some (some x) => _
  unfold wItems ksOf
  rw [List.getElem?_map]
  cases q : kvs[i]? with
  | none => exact ⟨d', List.getElem?_eq_none_iff.mp q⟩
  | some kv =>
    have lt := (List.getElem?_eq_some_iff.mp q).1
    have lt2 : i < ws.length := by omega
    rw [List.getElem?_eq_getElem lt2]
    obtain ⟨z, hz, rz⟩ := hv'.get (List.getElem?_eq_getElem lt2)
    rw [List.getElem?_map, q] at hz
    cases hz
    refine ⟨⟨d', lt⟩, fun v H2 y => ?_⟩
    obtain ⟨N, k, z, e, rfl, hN, rfl⟩ := y
    rw [q] at e
    cases e
    refine ⟨r', grow_upd hN, rm.pass hN, rv_newT rm hN ?_⟩
    unfold RVs
    exact ⟨_, _, rfl, rv_key k, by unfold RVs; exact ⟨_, [], rfl, rz, by unfold RVs; rfl⟩⟩
end
section
variable {i : Nat} {x : Str} {p1 apos cpos tpos : Pos} {elts : List Expr} {kk : Nat} {ts : List Nat} {mg : MG} {tg : Expr}
theorem ss_forItems (i : Nat) (hp : PassesOwn (model X.prog X.w) X.A X.env X.xe) (hc : X.calm = true) (hN : X.N[i]? = some x) (hv : Vis X.env.scope x)
    (hg : SG X T ts (.Tuple elts kk tpos) mg) (hb : SB X T W rest ms) (hd : (x == ("__debug__" : Str)) = false := by decide) (hcd : (x == ("__classdict__" : Str)) = false := by decide)
    (hbase : attributeBase (.Name x p1) "items" X.env (eval (.Name x p1) X.env) = eval (.Name x p1) X.env := by rfl) (hline : (apos.endLine == cpos.line) = true := by rfl) (hs : ∀ z, foldedSetIterable (.Call (.Attribute (.Name x p1) "items" apos) [] [] cpos) X.env z = pure z := by intro _; rfl) :
    SS X T W (.For (.Tuple elts kk tpos) (.Call (.Attribute (.Name x p1) "items" apos) [] [] cpos) rest [] pos) (mWalk i wItems mg ms) :=
  ps_walk (ps_for (pos := pos) hp hc (pi_items (elts := elts) (kk := kk) (tpos := tpos) (pe_var (pos := p1) hN hv hd hcd) hbase hline) hg.pg hb.ps hs) fun h1 h2 h3 => iok_wItems h1 h2 h3
theorem ss_forValues (i : Nat) (hp : PassesOwn (model X.prog X.w) X.A X.env X.xe) (hc : X.calm = true) (hN : X.N[i]? = some x) (hv : Vis X.env.scope x)
    (hg : SG X T ts tg mg) (hb : SB X T W rest ms) (hd : (x == ("__debug__" : Str)) = false := by decide) (hcd : (x == ("__classdict__" : Str)) = false := by decide)
    (hbase : attributeBase (.Name x p1) "values" X.env (eval (.Name x p1) X.env) = eval (.Name x p1) X.env := by rfl) (hline : (apos.endLine == cpos.line) = true := by rfl) (hs : ∀ z, foldedSetIterable (.Call (.Attribute (.Name x p1) "values" apos) [] [] cpos) X.env z = pure z := by intro _; rfl) :
    SS X T W (.For tg (.Call (.Attribute (.Name x p1) "values" apos) [] [] cpos) rest [] pos) (mWalk i wVals mg ms) :=
  ps_walk (ps_for (pos := pos) hp hc (pi_values (pe_var (pos := p1) hN hv hd hcd) hbase hline) hg.pg hb.ps hs) fun h1 h2 h3 => iok_wVals h1 h2 h3
theorem ss_forKeys (i : Nat) (hp : PassesOwn (model X.prog X.w) X.A X.env X.xe) (hc : X.calm = true) (hN : X.N[i]? = some x) (hv : Vis X.env.scope x)
    (hg : SG X T ts tg mg) (hb : SB X T W rest ms) (hd : (x == ("__debug__" : Str)) = false := by decide) (hcd : (x == ("__classdict__" : Str)) = false := by decide) (hs : ∀ z, foldedSetIterable (.Name x p1) X.env z = pure z := by intro _; rfl) :
    SS X T W (.For tg (.Name x p1) rest [] pos) (mWalk i wKeys mg ms) :=
  ps_walk (J := Itk) (PS.imp (ps_for (pos := pos) hp hc (pi_keys (pe_var (pos := p1) hN hv hd hcd)) hg.pg hb.ps hs) fun D σ H ⟨x, hx, d, o, kvs, e, hd, q⟩ => ⟨x, hx, d, o, e, .inl ⟨kvs, hd, q⟩⟩) fun h1 h2 h3 => iok_wKeys h1 h2 h3
end
end M

/-! instances that change: they stay in the memory; >> -/
namespace M
open PySem PySem.Spec PyProof.Rows L2
variable {X : Cx} {T : Tx} {W : WX} {a b c : Expr} {ma mb mc : ME} {mt mu : MT} {ms mv : MS} {pos : Pos} {st : Stmt} {rest sts : List Stmt}
variable {av av' : Av} {r r' r2 : List Addr} {H H' H2 : Hp} {m m' : Mem} {tg iter : Expr}
def fShrI := fI (fun _ j => decide (0 ≤ j)) fun i j => .int (i / 2 ^ j.toNat)
theorem om_shrI : OpM X T (binaryOp .RShift) fShrI := opm_I op_shr (fun i j h => of_decide_eq_true h) fun _ _ _ _ _ => rv_int
section
variable {E : XK} {k n : Nat} {f : Addr} {fd : FuncData} {ps : List Str} {mf : MF} {x : Str} {es : List Expr} {mr : MA} {p : Pos}
/-- C(..), the instance kept -/
def mMkS (c n : Nat) (mf : MF) (mr : MA) : ME := fun e m => (mr e m).bind fun xs m1 => if xs.length + 1 == n then match mf (.ref m1.length :: xs) (m1 ++ [MO.ins c []]) with
  | .ok .non m2 => .ok (.ref m1.length) m2
  | .exc c2 ws m2 => .exc c2 ws m2
  | _ => .bad
  else .bad
theorem se_makeS {cl : Nat} (M0 : L2.Mk X.K (T.cA cl) f) (F : FnOk X.prog X.w X.K X.mg X.base (L2.CX X.prog X.w) k f fd ps (spM T n mf)) (hr : Room (k + 1) X.A) (hg : Gl X x) (hm : X.mg x = some (.ref (T.cA cl))) (hb : Binds X.K fd ps []) (tk : Takes X (WN E)) (ha : SA X T (WN E) (a :: es) mr)
    (hdb : (x == ("__debug__" : Str)) = false := by decide) (he : starEach (a :: es) X.env = (false, eval a X.env) :: starEach es X.env := by rfl) (hpl : (backTo pos (starEach es X.env)).any (·.1) = false := by rfl) :
    SE X T (WN E) (.Call (.Name x p) (a :: es) [] pos) (mMkS cl n mf mr) :=
  ⟨PE.imp (pe_make M0 F hr hg hm hb .nil (passes_call tk (fun _ _ _ _ h => h)) ha.pa hdb he hpl) fun σ H Q ⟨av, r, e, m, re, rm, h⟩ =>
    ⟨av, r, e, m, re, rm, okR_imp (okR_bind h) fun xs m1 h r1 H1 vs g1 rm1 rv1 ai dx hx hdx hne => by
      show spM T n mf (_ :: (vs ++ [])) _ _ E
      rw [List.append_nil]
      split at h
      · rename_i hl
        have hx2 : upd H1 dx (.own ai) ai = none := by rw [upd_ne hne.symm]; exact hx
        have q1 : RM T av r1 (upd H1 dx (.own ai)) m1 := rm1.pass hdx
        have q2 := (q1.away (o := .ins (T.cA cl) dx []) hx2).held (x := .ins cl []) (q1.fresh hx2) ⟨dx, [], upd_same, rfl, by unfold RVs; rfl, by simp⟩
        have gg : Grow r1 H1 (r1 ++ [ai]) (upd (upd H1 dx (.own ai)) ai (.ins (T.cA cl) dx [])) := (grow_upd hdx).trans (grow_held (grow_upd hx2) (soft hx2))
        have at_ : (r1 ++ [ai])[m1.length]? = some ai := by rw [← rm1.len]; simp
        refine ⟨by rw [List.length_cons, rv1.length]; exact eq_of_beq hl, av, r1 ++ [ai], m1 ++ [.ins cl []], .ref m1.length :: xs, ?_, q2, ?_⟩
        · unfold RVs
          exact ⟨_, _, rfl, by unfold RV; exact ⟨ai, at_, rfl⟩, rv1.grow gg⟩
        · split at h
          · rename_i m2 hv
            rw [hv]
            intro r3 H3 w g rm3 rv3
            exact ⟨rv3.non', h r3 H3 (.ref ai) (g1.trans (gg.trans g)) rm3 (by unfold RV; exact ⟨ai, get_grow g at_, rfl⟩)⟩
          · rename_i c2 ws m2 hv
            rw [hv]
            intro r3 H3 cls d g rm3 rx
            exact h r3 H3 cls d (g1.trans (gg.trans g)) rm3 rx
          · exact h.elim
      · exact h.elim⟩⟩
end
end M

namespace M
open PySem PySem.Spec PyProof.Rows L2
open PySem.Builtin PySem.Builtin.Int PySem.Builtin.Float
def binT (i : Int) : Str := ⟨((Nat.toDigits 2 i.natAbs).map Char.toNat).toArray⟩
theorem gives_after_cut {v : Value} {T : String} {k : String → Sem Fin} {m : Made} {w : Nat} (hT : ∀ s : Shared, s.TypeIs v T)
    (hn : (Value.type T == Value.type "builtin_function_or_method") = false) (g : ∀ n, Gives (k n) m) : Gives (do let n ← typeNameOfCut w v; k n) m :=
  fun prog w A R s hq => wpAny_bind (by
    unfold typeNameOfCut shownTypeOf
    refine wpAny_bind (wpAny_bind (wpAny_typeOf (hT s) ?_))
    simp only [hn, Bool.false_eq_true, if_false]
    exact wpAny_pure (wpAny_pure (g _ prog w A R s hq)))
theorem gives_int_format_b (a : Int) (t u : Tok) (h : 0 ≤ a) : Gives («int.__format__» ⟨[.int a t, .str "b" u], []⟩) (.str (binT a)) := by
  have e : decide (a < 0) = false := by simp; omega
  unfold «int.__format__»
  refine gives_after_typeNameOf (T := "str") (fun s => typeIs_str s _ _) (by decide) fun _ => ?_
  refine gives_after_cut (T := "int") (fun s => typeIs_int s a t) (by decide) fun name => ?_
  have hp : parseFormatSpec (Str.ofString "b").cps.toList name 62 = .ok { align := 62, type := some 98 } := by rfl
  rw [hp]
  refine .of_eq ?_
  show retStr _ = retStr _
  refine congrArg retStr ?_
  rw [e]
  show _ = (⟨(List.map Char.toNat (Nat.toDigits 2 a.natAbs)).toArray⟩ : Str)
  have key : ∀ D : List Nat, (⟨(List.replicate ((-1 : Int) - (((([] : List Nat).length : Int) + ([] : List Nat).length + ([] : List Nat).length)) - ((if D.isEmpty then [] else List.replicate (Int.toNat 0 - D.length) 48 ++ D).length : Int)).toNat 32 ++ [] ++ [] ++ List.replicate 0 32 ++ (if D.isEmpty then [] else List.replicate (Int.toNat 0 - D.length) 48 ++ D) ++ [] ++ List.replicate 0 32).toArray⟩ : Str) = ⟨D.toArray⟩ := fun D => by
    have hz : ∀ n : Nat, ((-1 : Int) - (((([] : List Nat).length : Int) + ([] : List Nat).length + ([] : List Nat).length)) - (n : Int)).toNat = 0 := fun n => by first | (simp; done) | (simp; omega)
    rw [hz]
    have h2 : Int.toNat 0 - D.length = 0 := by simp
    rw [h2]
    cases D <;> simp
  exact key _

variable {X : Cx} {T : Tx} {W : WX} {a b c : Expr} {ma mb mc : ME} {mt mu : MT} {ms mv : MS} {pos : Pos} {st : Stmt} {rest sts : List Stmt}
variable {av av' : Av} {r r' r2 : List Addr} {H H' H2 : Hp} {m m' : Mem} {tg iter : Expr}
theorem pe_fmtB {e : Expr} {te : TE} {j p2 pos : Pos} {k : _} (he : PE X e te) : PE X (.FormattedValue e (-1) (some (.JoinedStr [.Constant (.str "b") k j] p2)) pos) (fun σ H Q => te σ H fun x H1 => ∃ i : Int, x = .int i ∧ 0 ≤ i ∧ (binT i).length ≤ sizeLine ∧ Q (.str (binT i)) H1) := by
  refine ⟨fun pins s σ H Q I h => ?_⟩
  refine wpAny_FormattedValue_spec (thn (he.run pins s σ H _ I h) fun v s1 hv => ?_)
  obtain ⟨x, H1, I1, r1, i, rfl, h0, hz, q⟩ := hv
  obtain ⟨t, rfl⟩ := r1
  refine wpAny_JoinedStr_one (Calls.Constant_str ?_)
  exact ⟨_, _, rfl, wpAny_formatField_spec (by decide) (fun s' => typeIs_int s' i t) PySem.F.slot_int_format PySem.F.entry_int_format PySem.F.args_int_format_2 (fun u => gives_int_format_b i t u h0) ⟨.str (binT i), H1, (I1.tok _).tok _, ⟨_, rfl⟩, q⟩ (by decide) hz⟩
/-- f"{x:b}" -/
def mFmtB (ma : ME) : ME := fun e m => (ma e m).bind fun x m1 => match x with
  | .int i => if decide (0 ≤ i) && Nat.ble (binT i).length sizeLine then .ok (.str (binT i)) m1 else .bad
  | _ => .bad
theorem se_fmtB {j p2 pos pos' : Pos} {k : _} (ha : SE X T W a ma) : SE X T W (.JoinedStr [.FormattedValue a (-1) (some (.JoinedStr [.Constant (.str "b") k j] p2)) pos] pos') (mFmtB ma) :=
  ⟨PE.imp (pe_joined1 (pe_fmtB ha.pe)) fun σ H Q ⟨av, r, e, m, re, rm, h⟩ =>
    ⟨av, r, e, m, re, rm, okR_imp (okR_bind h) fun x m1 h r1 H1 v g1 rm1 rv => by
      split at h
      · rename_i i
        split at h
        · rename_i hi
          rw [Bool.and_eq_true, decide_eq_true_eq] at hi
          exact ⟨i, rv.int', hi.1, Nat.le_of_ble_eq_true hi.2, h r1 H1 _ g1 rm1 (by unfold RV; rfl)⟩
        · exact h.elim
      · exact h.elim⟩⟩
/-- methods of texts -/
def isStr (x : PV) (_ : Mem) : Bool := match x with
  | .str _ => true
  | _ => false
theorem ty_str {x : PV} {v : V} (rm : RM T av r H m) (rv : RV T av r H x v) (h : isStr x m = true) : tyV X.K "str" v H := by
  cases x with
  | str s => rw [rv.str']; rfl
  | _ => cases h
def qZfill : PV → List PV → Mem → Res PV := fun x xs m => match x, xs with
  | .str s, [.int i] => if PadOk i then .ok (.str (Txt.zfill s i)) m else .bad
  | _, _ => .bad
theorem qt_zfill : MtK X T "str" "str.zfill" qZfill := by
  refine ⟨_, mt_zfill, fun {av r H m x xs v vs Q} rm rv rvs h => ?_⟩
  unfold qZfill at h
  split at h
  · rename_i s i
    split at h
    · rename_i hp
      obtain ⟨w, rfl, hw⟩ := rvs1 rvs
      exact ⟨s, i, rv.str', by rw [hw.int'], hp, h r H _ Grow.refl rm (by unfold RV; rfl)⟩
    · exact h.elim
  · exact h.elim
def qCount : PV → List PV → Mem → Res PV := fun x xs m => match x, xs with
  | .str s, [.str t] => .ok (.int (Txt.count s t)) m
  | _, _ => .bad
theorem qt_count : MtK X T "str" "str.count" qCount := by
  refine ⟨_, mt_count, fun {av r H m x xs v vs Q} rm rv rvs h => ?_⟩
  unfold qCount at h
  split at h
  · rename_i s t
    obtain ⟨w, rfl, hw⟩ := rvs1 rvs
    exact ⟨s, t, rv.str', by rw [hw.str'], h r H _ Grow.refl rm (by unfold RV; rfl)⟩
  · exact h.elim
/-- xs.insert(i, y) -/
def qInsert : PV → List PV → Mem → Res PV := fun x xs m => match x, xs with
  | .ref j, [.int i, y] => match m[j]? with
    | some (.lst ys) => if szOk ys.length && (decide (0 ≤ i) && decide (i < 2 ^ 63)) then .ok .non (m.set j (.lst (ys.take i.toNat ++ [y] ++ ys.drop i.toNat))) else .bad
    | _ => .bad
  | _, _ => .bad
theorem qt_insert : MtK X T "list" "list.insert" qInsert := by
  refine ⟨_, mt_insert, fun {av r H m x xs v vs Q} rm rv rvs h => ?_⟩
  unfold qInsert at h
  split at h
  · rename_i j i y
    split at h
    · rename_i ys hy
      split at h
      · rename_i hz
        rw [Bool.and_eq_true, Bool.and_eq_true, decide_eq_true_eq, decide_eq_true_eq] at hz
        obtain ⟨p, ws, rfl, hj, hl, hv⟩ := rm.lst rv hy
        obtain ⟨u, w, rfl, hu, hw⟩ := rvs2 rvs
        have hp : p ∈ r := List.mem_of_getElem? hj
        refine ⟨p, ws, i, w, rfl, by rw [hu.int'], hl, by rw [hv.length]; exact szOk_lt hz.1, hz.2.1, hz.2.2, h r _ _ (grow_write hp) (rm.setL hj (by first | (rw [hl]; trivial) | (rw [hA]; trivial) | (rw [d]; trivial)) ?_) rv_non⟩
        exact ((RVs.take i.toNat hv).append (by unfold RVs; exact ⟨w, [], rfl, hw, by unfold RVs; rfl⟩)).append (RVs.drop i.toNat hv)
      · exact h.elim
    · exact h.elim
  · exact h.elim
end M

/-! list(range(a, b)) -/
namespace M
open PySem PySem.Spec PyProof.Rows L2
variable {X : Cx} {T : Tx} {W : WX} {a b c : Expr} {ma mb mc : ME} {mt mu : MT} {ms mv : MS} {pos : Pos} {st : Stmt} {rest sts : List Stmt}
variable {av av' : Av} {r r' r2 : List Addr} {H H' H2 : Hp} {m m' : Mem} {tg iter : Expr}
def upP2 (lo : Int) (n : Nat) : List PV := (List.range n).map fun i => PV.int (lo + (i : Nat))
def mLR2 (ma mb : ME) : MA := fun e m => (ma e m).bind fun x m1 => (mb e m1).bind fun y m2 => match x, y with
  | .int i, .int j => if decide (0 ≤ i) && (decide (0 ≤ j) && (szOk i.toNat && szOk j.toNat)) then .ok (upP2 i (j - i).toNat) m2 else .bad
  | _, _ => .bad
theorem rvs_up2 (i j : Int) : RVs T av r H (upP2 i (j - i).toNat) (rgV i j) := by
  have e1 : upP2 i (j - i).toNat = ((List.range (j - i).toNat).map fun k => i + ((k : Nat) : Int)).map PV.int := by unfold upP2; rw [List.map_map]; rfl
  have e2 : rgV i j = ((List.range (j - i).toNat).map fun k => i + ((k : Nat) : Int)).map V.int := by unfold rgV; rw [List.map_map]; rfl
  rw [e1, e2]
  exact rvs_intsB _
theorem sf_listRg2 {p p2 pos2 : Pos} (hc : X.calm = true) (hg : Gl X "list") (hm : X.mg "list" = none) (hg2 : Gl X "range") (hm2 : X.mg "range" = none) (ha : SE X T W a ma) (hb : SE X T W b mb)
    (na : starEach [a, b] X.env = (false, eval a X.env) :: starEach [b] X.env := by rfl) (nc : starEach [b] X.env = (false, eval b X.env) :: starEach [] X.env := by rfl) (hp : (backTo pos2 (starEach [b] X.env)).any (·.1) = false := by rfl)
    (nb : starEach [.Call (.Name "range" p2) [a, b] [] pos2] X.env = (false, eval (.Call (.Name "range" p2) [a, b] [] pos2) X.env) :: starEach [] X.env := by rfl) :
    SF X T W (.Call (.Name "list" p) [.Call (.Name "range" p2) [a, b] [] pos2] [] pos) (mLR2 ma mb) :=
  ⟨PE.imp (pe_listRg hc hg hm (prg_2 hg2 hm2 ha.pe hb.pe na nc hp) nb) fun σ H Q ⟨av, r, e, m, re, rm, h⟩ =>
    ⟨av, r, e, m, re, rm, okR_imp (okR_bind h) fun x m1 h r1 H1 v g1 rm1 rv => ⟨av, r1, e, m1, re.grow g1, rm1, okR_grow g1 (fun y m2 h r2 H2 w g2 rm2 rw => by
      split at h
      · rename_i i j _
        split at h
        · rename_i hj
          rw [Bool.and_eq_true, Bool.and_eq_true, Bool.and_eq_true, decide_eq_true_eq, decide_eq_true_eq] at hj
          obtain ⟨i0, j0, iz, jz⟩ := hj
          have hz := Nat.le_of_ble_eq_true iz
          have hz2 := Nat.le_of_ble_eq_true jz
          refine ⟨i, j, (rv.grow g2).int', rw.int', RgOk.of_le i0 (by omega) (by omega) j0, fun q hq => ?_⟩
          have g12 := g1.trans g2
          exact h r2 _ q _ (g12.trans (grow_upd hq)) (g12.none (soft hq)) (rm2.fresh hq) upd_same (rm2.away hq) ((rvs_up2 i j).away hq)
        · exact h.elim
      · exact h.elim) (okR_bind h)⟩⟩⟩
end M

/-! a dict of the module: text keys, ints -/
namespace M
open PySem PySem.Spec PyProof.Rows L2
variable {X : Cx} {T : Tx} {W : WX} {a b c : Expr} {ma mb mc : ME} {mt mu : MT} {ms mv : MS} {pos : Pos} {st : Stmt} {rest sts : List Stmt}
variable {av av' : Av} {r r' r2 : List Addr} {H H' H2 : Hp} {m m' : Mem} {tg iter : Expr}
def KRow (K : PySem.W.Frag) (d : Addr) (z : Str) : Option Int → Prop
  | some i => ∃ u, PySem.W.nsIn K d z = some (some u) ∧ RelV (.int i) u
  | none => PySem.W.nsIn K d z = some none
structure KTab (K : PySem.W.Frag) (w : World) (d : Addr) (kvs : List (Str × Int)) : Prop where
  dct : ∃ es n, KDict K w d es n
  row : ∀ z, KRow K d z (kvs.lookup z)
def valI (K : PySem.W.Frag) (d : Addr) (kvs : List (Str × Int)) : Bool := kvs.all fun q => match PySem.W.nsIn K d q.1 with
  | some (some (.int i _)) => i == q.2
  | _ => false
theorem key_miss {P : Params} {z : Str} : ∀ {l : List DictEntry} {ks : List Str}, l.map He.keyOf = He.keysIn P ks → z ∉ ks → l.find? (·.key.isStr z) = none ∧ l.any (·.refKey) = false
  | [], _, _, _ => ⟨rfl, rfl⟩
  | e :: l, [], h, _ => by cases h
  | e :: l, k :: ks, h, hz => by
    have h1 : He.keyOf e :: l.map He.keyOf = some (k, PyData.keyHash P k) :: He.keysIn P ks := h
    injection h1 with h2 h3
    obtain ⟨q1, q2⟩ := key_miss h3 (fun x => hz (List.mem_cons_of_mem _ x))
    unfold He.keyOf at h2
    split at h2
    · rename_i x t q
      have h4 := Option.some.inj h2
      obtain ⟨h5, h6⟩ := Prod.mk.inj h4
      have ne : (x == z) = false := by
        rw [beq_eq_false_iff_ne]
        intro y
        exact hz (by rw [← y, h5]; exact List.mem_cons_self)
      constructor
      · rw [List.find?_cons_of_neg (by rw [q]; show ¬ (x == z) = true; rw [ne]; decide)]
        exact q1
      · rw [List.any_cons, q2, Bool.or_false]
        unfold DictEntry.refKey
        rw [q]
    · cases h2
theorem ktab_of {K : PySem.W.Frag} {w : World} {d : Addr} {kvs : List (Str × Int)} (h1 : He.dicW K d = some (He.keysIn w.params (kvs.map (·.1)))) (h2 : valI K d kvs = true) (nd : (kvs.map (·.1)).Nodup) : KTab K w d kvs := by
  obtain ⟨es, n, D⟩ := He.dicW_ok h1
  refine ⟨⟨es, n, D⟩, fun z => ?_⟩
  cases hz : kvs.lookup z with
  | some i =>
    have hm : (z, i) ∈ kvs := by
      clear h1 h2 nd
      induction kvs with
      | nil => cases hz
      | cons q l ih =>
        obtain ⟨k, j⟩ := q
        rw [List.lookup_cons] at hz
        cases e : z == k with
        | true =>
          rw [e] at hz
          have e1 := eq_of_beq e
          cases hz
          rw [e1]
          exact List.mem_cons_self
        | false =>
          rw [e] at hz
          exact List.mem_cons_of_mem _ (ih hz)
    have q := List.all_eq_true.mp h2 _ hm
    show ∃ u, PySem.W.nsIn K d z = some (some u) ∧ RelV (.int i) u
    dsimp only at q
    split at q
    · rename_i j t e
      exact ⟨_, e, t, by rw [eq_of_beq q]⟩
    · cases q
  | none =>
    have hm : z ∉ kvs.map (·.1) := by
      clear h1 h2 nd
      induction kvs with
      | nil => simp
      | cons q l ih =>
        obtain ⟨k, j⟩ := q
        rw [List.lookup_cons] at hz
        cases e : z == k with
        | true => rw [e] at hz; cases hz
        | false =>
          rw [e] at hz
          rw [List.map_cons, List.mem_cons, not_or]
          exact ⟨fun y => by rw [y] at e; simp at e, ih hz⟩
    show PySem.W.nsIn K d z = some none
    have e1 : es.toList.map He.keyOf = He.keysIn w.params (kvs.map (·.1)) := by
      unfold He.dicW at h1
      rw [D.at_] at h1
      dsimp only at h1
      rw [D.low] at h1
      exact Option.some.inj h1
    obtain ⟨q1, q2⟩ := key_miss e1 hm
    unfold PySem.W.nsIn
    rw [D.at_]
    dsimp only
    rw [q1]
    dsimp only
    rw [q2]
    rfl
/-- x in D -/
def fInK (k : Nat) (kvs : List (Str × Int)) (neg : Bool) : PV → PV → Mem → Option PV := fun x y _ => match x, y with
  | .str z, .glo j => if j == k then some (.bl (if neg then !(kvs.lookup z).isSome else (kvs.lookup z).isSome)) else none
  | _, _ => none
theorem KRow.get {K : PySem.W.Frag} {d : Addr} {z : Str} {o : Option Int} (h : KRow K d z o) : ∃ q, PySem.W.nsIn K d z = some q ∧ q.isSome = o.isSome := by
  cases o with
  | some i => obtain ⟨u, e, _⟩ := h; exact ⟨_, e, rfl⟩
  | none => exact ⟨_, h, rfl⟩
theorem om_inK {k : Nat} {d : Addr} {kvs : List (Str × Int)} (hg : T.g k = .ref d) (D : KTab X.K X.w d kvs) : OpM X T (compareOp .In) (fInK k kvs false) := by
  obtain ⟨es, n, KD⟩ := D.dct
  refine ⟨_, op_in_kd KD, fun {av r H m x y z v w Q} rm rv rw e k => ?_⟩
  unfold fInK at e
  split at e
  · rename_i s j
    split at e
    · rename_i hj
      obtain ⟨q, e1, e2⟩ := (D.row s).get
      have hy := eq_of_beq hj
      subst hy
      unfold RV at rw
      refine ⟨s, q, rv.str', by rw [rw, hg], e1, ?_⟩
      cases e
      exact k r H _ .refl rm (by unfold RV; rw [e2]; rfl)
    · cases e
  · cases e
theorem om_notInK {k : Nat} {d : Addr} {kvs : List (Str × Int)} (hg : T.g k = .ref d) (D : KTab X.K X.w d kvs) : OpM X T (compareOp .NotIn) (fInK k kvs true) := by
  obtain ⟨es, n, KD⟩ := D.dct
  refine ⟨_, op_notIn_kd KD, fun {av r H m x y z v w Q} rm rv rw e k => ?_⟩
  unfold fInK at e
  split at e
  · rename_i s j
    split at e
    · rename_i hj
      obtain ⟨q, e1, e2⟩ := (D.row s).get
      have hy := eq_of_beq hj
      subst hy
      unfold RV at rw
      refine ⟨s, q, rv.str', by rw [rw, hg], e1, ?_⟩
      cases e
      exact k r H _ .refl rm (by unfold RV; rw [e2]; rfl)
    · cases e
  · cases e
/-- D[x] -/
def fIxK (k : Nat) (kvs : List (Str × Int)) : PV → PV → Mem → Option PV := fun x y _ => match x, y with
  | .glo j, .str z => if j == k then (kvs.lookup z).map PV.int else none
  | _, _ => none
theorem im_K {k : Nat} {d : Addr} {kvs : List (Str × Int)} (hg : T.g k = .ref d) (D : KTab X.K X.w d kvs) : IxM X T (fIxK k kvs) := by
  refine ⟨_, ix_kdict, fun {av r H m x y z v w Q} rm rv rw e k => ?_⟩
  unfold fIxK at e
  split at e
  · rename_i j s
    split at e
    · rename_i hj
      have hy := eq_of_beq hj
      subst hy
      unfold RV at rv
      have row := D.row s
      cases hl : kvs.lookup s with
      | none => rw [hl] at e; cases e
      | some i =>
        rw [hl] at e row
        cases e
        obtain ⟨u, e1, ru⟩ := row
        obtain ⟨es, n, KD⟩ := D.dct
        exact ⟨d, s, .int i, by rw [rv, hg], rw.str', ⟨es, n, u, KD.at_, KD.lit, e1, ru⟩, k r H _ .refl rm rv_int⟩
    · cases e
  · cases e
end M

/-! max(xs, default=d) -/
namespace PySem
namespace MxD
open Sem (wp)
theorem args (a d : Value) : argsOk "max" ⟨[a], [(Str.ofString "default", d)]⟩ := by unfold argsOk; kernel_rfl
/-- what the loop holds: nothing, or the best one of those ahead -/
def Best (P : Nat → Value → Prop) (bt : Nat → Nat → Bool) (j : Nat) : Option Value → Prop
  | none => j = 0
  | some v => 0 < j ∧ P (argBest bt (j - 1)) v
def heldIn (ob : Option Value) : Array Value := match ob with
  | none => #[]
  | some v => #[v, v]
section
variable {prog : Program} {w : World} {A : Around} {R : Result → Shared → Prop} {I : Addr} {fp wr : List Addr} {n : Nat} {P : Nat → Value → Prop} {St : Nat → Heap → Prop}
theorem run (W : Walks prog w A.in1 I fp wr n P St) (bt : Nat → Nat → Bool) (hcmp : CmpOf prog w A.in1 .Gt P bt) (S : Addr) (hSf : S ∉ fp) {dn : Str} {d : Value} :
    ∀ (k j : Nat) (s : Shared) (c : Nat) (ob : Option Value), n = j + k → St j s.heap → Best P bt j ob → s.heap.get? S = some { cls := .type "list", dict := none, data := .seq (heldIn ob) c, slots := #[] } →
    (∀ v h' tk, (n = 0 ∧ v = d) ∨ (0 < n ∧ P (argBest bt (n - 1)) v) → (∀ b o, b ∉ wr → b ≠ S → s.heap.get? b = some o → h'.get? b = some o) → R (.ok (.ret v)) { s with heap := h', toks := tk }) →
    codeAny (model prog w) A (.builtin "max.loop" ⟨[.ref I, .none, .ref S], [(dn, d)]⟩) R s := by
  have hSw : S ∉ wr := fun h => hSf (W.sub _ h)
  have nm : (toString "max" ++ toString ".loop" : String) = "max.loop" := by decide
  intro k
  induction k with
  | zero =>
    intro j s c ob hk hst hB hS hR
    have hj : j = n := by omega
    subst hj
    refine codeAny_builtin F.entry_max_loop ?_
    rw [Around.under_plainId F.plain_max_loop _]
    show wpAny _ A.in1 (seqItems? (.ref S) >>= _) _ _ s
    refine wpAny_bind (wpAny_seqItems hS rfl ?_)
    show wpAny _ A.in1 (tryCatch (pyNext (.ref I)) _ >>= _) _ _ s
    refine wpAny_bind (wpAny_tryCatch (W.done s _ _ hst fun h' tk keep => ?_))
    have hS' := keep S _ hSw hS
    cases ob with
    | none =>
      have z : j = 0 := hB
      show wpAny _ A.in1 (rule _ >>= _) _ _ _
      exact wpAny_bind (wpAny_rule (wpAny_pure (hR d _ tk (.inl ⟨z, rfl⟩) fun b o n1 n2 e => keep b o n1 e)))
    | some v =>
      obtain ⟨z, hp⟩ := (show 0 < j ∧ P (argBest bt (j - 1)) v from hB)
      have hS' : h'.get? S = some { cls := .type "list", dict := none, data := .seq #[v, v] c, slots := #[] } := hS'
      show wpAny _ A.in1 (updateSeq S (fun _ => #[]) >>= _) _ _ _
      refine wpAny_bind (wpAny_updateSeq hS' rfl (wpAny_bind (wpAny_letGo (wpAny_pure ?_))))
      exact hR v _ tk (.inr ⟨z, hp⟩) fun b o n1 n2 e => (Heap.get?_update_other _ _ (Ne.symm n2)).trans (keep b o n1 e)
  | succ k ih =>
    intro j s c ob hk hst hB hS hR
    have hlt : j < n := by omega
    refine codeAny_builtin F.entry_max_loop ?_
    rw [Around.under_plainId F.plain_max_loop _]
    show wpAny _ A.in1 (seqItems? (.ref S) >>= _) _ _ s
    refine wpAny_bind (wpAny_seqItems hS rfl ?_)
    show wpAny _ A.in1 (tryCatch (pyNext (.ref I)) _ >>= _) _ _ s
    refine wpAny_bind (wpAny_tryCatch (W.item j s _ _ hlt hst fun v h' tk hP hst' keep => ?_))
    have hS' := keep S _ hSw hS
    cases ob with
    | none =>
      have z : j = 0 := hB
      subst z
      show wpAny _ A.in1 (updateSeq S (fun _ => #[v, v]) >>= _) _ _ _
      refine wpAny_bind (wpAny_updateSeq hS' rfl ?_)
      rw [nm]
      refine wpAny_pure ⟨plainId_quiet F.plain_max_loop _, ih 1 _ _ (some v) (by omega) (W.frame _ _ _ hst' fun b hb o e => (Heap.get?_update_other _ _ (fun h : S = b => hSf (by rw [h]; exact hb))).trans e) ⟨by omega, hP⟩ (Heap.get?_update_self _ hS' rfl) fun v' h2 tk2 hp keep2 => ?_⟩
      exact hR v' h2 tk2 hp fun b o n1 n2 e => keep2 b o n1 n2 ((Heap.get?_update_other _ _ (Ne.symm n2)).trans (keep b o n1 e))
    | some vb =>
      obtain ⟨z, hp0⟩ := (show 0 < j ∧ P (argBest bt (j - 1)) vb from hB)
      obtain ⟨i, rfl⟩ : ∃ i, j = i + 1 := ⟨j - 1, by omega⟩
      have hp0 : P (argBest bt i) vb := hp0
      have hS' : h'.get? S = some { cls := .type "list", dict := none, data := .seq #[vb, vb] c, slots := #[] } := hS'
      show wpAny _ A.in1 (tryCatch (holding [v, v] (richCompare .Gt v vb >>= _)) _ >>= _) _ _ _
      refine wpAny_bind (wpAny_tryCatch (wpAny_holding (wpAny_bind (hcmp (i + 1) (argBest bt i) v vb _ _ _ hP hp0 ?_))))
      refine wpAny_bind (wpAny_holding (wpAny_truthy_bool ?_))
      refine wpAny_bind (wpAny_letGo (wpAny_pure ?_))
      cases hb : bt (i + 1) (argBest bt i) with
      | true =>
        simp only [if_true]
        refine wpAny_bind (wpAny_updateSeq hS' rfl (wpAny_bind (wpAny_letGo ?_)))
        rw [nm]
        refine wpAny_pure ⟨plainId_quiet F.plain_max_loop _, ih (i + 2) _ _ (some v) (by omega) (W.frame _ _ _ hst' fun b hb o e => (Heap.get?_update_other _ _ (fun h : S = b => hSf (by rw [h]; exact hb))).trans e) ⟨by omega, ?_⟩ (Heap.get?_update_self _ hS' rfl) fun v' h2 tk2 hp keep2 => ?_⟩
        · show P (argBest bt (i + 1)) v
          simp only [argBest, hb, if_true]
          exact hP
        · exact hR v' h2 tk2 hp fun b o n1 n2 e => keep2 b o n1 n2 ((Heap.get?_update_other _ _ (Ne.symm n2)).trans (keep b o n1 e))
      | false =>
        simp only [Bool.false_eq_true, if_false]
        refine wpAny_bind (wpAny_letGo ?_)
        rw [nm]
        refine wpAny_pure ⟨plainId_quiet F.plain_max_loop _, ih (i + 2) _ c (some vb) (by omega) hst' ⟨by omega, ?_⟩ hS' fun v' h2 tk2 hp keep2 => ?_⟩
        · show P (argBest bt (i + 1)) vb
          simp only [argBest, hb, Bool.false_eq_true, if_false]
          exact hp0
        · exact hR v' h2 tk2 hp fun b o n1 n2 e => keep2 b o n1 n2 (keep b o n1 e)
end
section
variable {prog : Program} {w : World} {A : Around} {E : Value → Shared → Prop} {s : Shared} {l : Addr} {xs : Array (Int × Tok)}
theorem tree_kw {id : String} {b : Builtin} {args : List Value} {kw : List (Str × Value)} {Q : Value → Shared → Prop} (hk : builtinKind id = none) (hp : plainId id = true) (hb : entryFor table id = some b) (ha : argsOk id ⟨args, kw⟩)
    (hc : wpAny (model prog w) A.in1 (b ⟨args, kw⟩) (fun fin s' => match fin with
      | .done f => (match (Except.ok f : Result) with | .ok (.ret v) => Q v s' | .ok _ => False | .error e => E e s')
      | .again c' => c'.quiet = true ∧ codeAny (model prog w) A c' (fun r s' => match r with | .ok (.ret v) => Q v s' | .ok _ => False | .error e => E e s') s') E s) : wpAny (model prog w) A (call (.builtin id) args kw) Q E s := by
  refine wpAny_call (codeAny_call_builtin hp hb ?_)
  simp only [checkBuiltinCall, hk]
  cases hsig : Manifest.signature? id with
  | none => exact wpAny_pure hc
  | some sig =>
    have ha' : Bind.checkArgs id sig ⟨args, kw⟩ = pure () := by simpa only [argsOk, hsig] using ha
    simp only [ha']
    exact wpAny_pure hc
theorem max_ints {d : Value} {Q : Value → Shared → Prop} (hh : A.handled = none) (hl : s.heap.IsList l (intItems xs))
    (h : ∀ v h' tk, ((intItems xs).size = 0 ∧ v = d) ∨ (0 < (intItems xs).size ∧ (intItems xs)[argBest (fun i j => decide (numAt xs i > numAt xs j)) ((intItems xs).size - 1)]? = some v) → (∀ b o, s.heap.get? b = some o → h'.get? b = some o) → Q v { s with heap := h', toks := tk }) :
    wpAny (model prog w) A (call (.builtin "max") [.ref l] [(Str.ofString "default", d)]) Q E s := by
  have nm : (toString "max" ++ toString ".loop" : String) = "max.loop" := by decide
  refine tree_kw F.kind_max F.plain_max F.entry_max (args _ _) ?_
  show wpAny _ A.in1 (Builtin.Builtins.bindParams "max" ["key", "default"] 0 ⟨[], [(Str.ofString "default", d)]⟩ >>= _) _ _ s
  refine wpAny_bind (wpAny_of_eq (show Builtin.Builtins.bindParams "max" ["key", "default"] 0 ⟨[], [(Str.ofString "default", d)]⟩ = pure [none, some d] from by first | rfl | kernel_rfl) ?_)
  refine wpAny_bind (wpAny_pure ?_)
  refine wpAny_bind (iter_intList hl fun s₂ e st hfp hlI => ?_)
  subst e
  refine wpAny_bind (wpAny_newObj_type ?_)
  have W := Walks.list (prog := prog) (w := w) (A := A.in1) hh s.heap.objs.size l hlI (intItems xs)
  rw [nm]
  refine wpAny_pure ⟨plainId_quiet F.plain_max_loop _, run W _ (CmpOf.ints_gt (numAt xs) (fun _ _ => intItems_at)) _ (fun hm => Nat.lt_irrefl _ (hfp _ hm)) (intItems xs).size 0 _ _ none (Nat.zero_add _).symm (W.frame _ _ _ st fun b _ o e => Heap.get?_push_of_some _ e) rfl (Heap.get?_push_size _ rfl) fun v h' tk hP keep => ?_⟩
  exact h v h' tk hP (old_kept fun b o n1 e => keep b o n1 (Nat.ne_of_lt (Heap.lt_size e)) (Heap.get?_push_of_some _ e))
end
end MxD
end PySem
namespace M
open PySem PySem.Spec PyProof.Rows L2
variable {X : Cx} {T : Tx} {W : WX} {a b c : Expr} {ma mb mc : ME} {mt mu : MT} {ms mv : MS} {pos : Pos} {st : Stmt} {rest sts : List Stmt}
variable {av av' : Av} {r r' r2 : List Addr} {H H' H2 : Hp} {m m' : Mem} {tg iter : Expr}
/-- max(xs, default=d) of a list of ints -/
def rMxD (K : PySem.W.Frag) : List V → List V → Hp → VK → Prop := fun vs zs H Q => ∃ (a : Addr) (ns : List Int) (d : V), vs = [V.ref a] ∧ zs = [d] ∧ SqL K H a (ns.map V.int) ∧
  (ns = [] → Q d H) ∧ ∀ m, m ∈ ns → (∀ y, y ∈ ns → y ≤ m) → Q (.int m) H
theorem cr_mxD (hc : X.calm = true) : CallRK X (.builtin "max") [Str.ofString "default"] (rMxD X.K) := by
  intro pins s σ H vs zs us ws Q I r rz h
  obtain ⟨a, ns, d, rfl, rfl, hs, q0, q⟩ := h
  obtain ⟨its, rv, hl, _⟩ := I.list hs
  rw [Vals.ref1 r]
  obtain ⟨w1, rfl, e1⟩ := vals1 rz
  have hi := rv.ints
  obtain ⟨xs, e⟩ := hi.allInts.items
  have hn : numsOf (intItems xs).toList = ns := by rw [← e]; exact hi.numsOf
  rw [nums_intItems] at hn
  have hl2 := hl.isList
  rw [e] at hl2
  refine PySem.MxD.max_ints (I.ok.hd hc) hl2 fun v h' tk hv hk => ?_
  rcases hv with ⟨z, rfl⟩ | ⟨z, hv⟩
  · have e0 : ns = [] := by
      rw [← hn]
      have z2 : xs.size = 0 := by simpa [intItems] using z
      rw [Array.eq_empty_of_size_eq_zero z2]; rfl
    exact ⟨d, H, I.kept hk, e1, q0 e0⟩
  · have z2 : 0 < xs.size := by simpa [intItems] using z
    have sz : (intItems xs).size = xs.size := by simp [intItems]
    rw [sz] at hv
    obtain ⟨t, rfl⟩ := intItems_at hv
    obtain ⟨h1, h2⟩ := argBest_gt (numAt xs) (xs.size - 1)
    subst hn
    refine ⟨.int _, H, I.kept hk, ⟨t, rfl⟩, q _ ?_ fun y hy => ?_⟩
    · rw [numAt_eq]; exact PySem.getD_mem (by rw [List.length_map, Array.length_toList]; omega)
    · obtain ⟨j, hj, rfl⟩ := mem_getD hy
      rw [List.length_map, Array.length_toList] at hj
      rw [← numAt_eq]; exact h2 j (by omega)
def maxI : List Int → Int
  | [] => 0
  | [i] => i
  | i :: j :: l => let k := maxI (j :: l); if k ≤ i then i else k
theorem maxI_ok : ∀ (i : Int) (l : List Int), maxI (i :: l) ∈ i :: l ∧ ∀ y, y ∈ i :: l → y ≤ maxI (i :: l)
  | i, [] => ⟨by simp [maxI], fun y h => by simp at h; rw [h]; exact Int.le_refl _⟩
  | i, j :: l => by
    obtain ⟨h1, h2⟩ := maxI_ok j l
    show (if maxI (j :: l) ≤ i then i else maxI (j :: l)) ∈ _ ∧ ∀ y, y ∈ i :: j :: l → y ≤ if maxI (j :: l) ≤ i then i else maxI (j :: l)
    split
    · rename_i h
      exact ⟨List.mem_cons_self, fun y hy => by
        rcases List.mem_cons.mp hy with rfl | hy
        · exact Int.le_refl _
        · exact Int.le_trans (h2 y hy) h⟩
    · rename_i h
      exact ⟨List.mem_cons_of_mem _ h1, fun y hy => by
        rcases List.mem_cons.mp hy with rfl | hy
        · omega
        · exact h2 y hy⟩
def mMaxD (ma mb : ME) : ME := fun e m => (ma e m).bind fun x m1 => (mb e m1).bind fun d m2 => match lstOf x m2 with
  | some xs => match intsOf xs with
    | some [] => .ok d m2
    | some (i :: l) => .ok (.int (maxI (i :: l))) m2
    | none => .bad
  | none => .bad
theorem se_maxD {p kpos : Pos} (hc : X.calm = true) (hg : Gl X "max") (hm : X.mg "max" = none) (ha : SE X T W a ma) (hb : SE X T W b mb) (hsa : starEach [a] X.env = (false, eval a X.env) :: starEach [] X.env := by rfl)
    (he : backTo pos (starEach [a] X.env) = (false, eval a X.env) :: backTo pos (starEach [] X.env) := by rfl) (hpl : (backTo pos (starEach [a] X.env)).any (·.1) = false := by rfl)
    (hall : (backToKw pos (keywordEach [⟨some "default", b, kpos⟩] X.env)).all (·.1.isSome) = true := by rfl) (hnone : (backToKw pos (keywordEach [⟨some "default", b, kpos⟩] X.env)).any (·.1.isNone) = false := by rfl) (hks : (backToKw pos (keywordEach [⟨some "default", b, kpos⟩] X.env)).filterMap (·.1) = [Str.ofString "default"] := by rfl) :
    SE X T W (.Call (.Name "max" p) [a] [⟨some "default", b, kpos⟩] pos) (mMaxD ma mb) :=
  ⟨PE.imp (pe_callBK (cr_mxD hc) hg hm rfl (pa_cons ha.pe pa_nil hsa) (pk_cons hb.pe pk_nil) (by decide) (by decide) he hpl hall hnone hks) fun σ H Q ⟨av, r, e, m, re, rm, h⟩ =>
    ⟨av, r, e, m, re, rm, okR_imp (okR_bind h) fun x m1 h r1 H1 v g1 rm1 rv => ⟨av, r1, e, m1, re.grow g1, rm1, okR_grow g1 (fun d m2 h r2 H2 w g2 rm2 rw => by
      split at h
      · rename_i xs hx
        obtain ⟨a, vs, rfl, hA, hv⟩ := lstOf_ok rm2 (rv.grow g2) hx
        have g12 := g1.trans g2
        split at h
        · rename_i hn
          rw [intsOf_eq hn] at hv
          rw [rvs_ints hv] at hA
          exact ⟨a, [], w, rfl, rfl, .inl hA, fun _ => h r2 H2 _ g12 rm2 rw, fun m hm => by cases hm⟩
        · rename_i i l hn
          rw [intsOf_eq hn] at hv
          rw [rvs_ints hv] at hA
          obtain ⟨k1, k2⟩ := maxI_ok i l
          refine ⟨a, i :: l, w, rfl, rfl, .inl hA, (fun z => by cases z), fun m hm hy => ?_⟩
          have e2 : m = maxI (i :: l) := Int.le_antisymm (k2 m hm) (hy _ k1)
          subst e2
          exact h r2 H2 _ g12 rm2 rv_int
        · exact h.elim
      · exact h.elim) (okR_bind h)⟩⟩⟩
/-- a, b, c = x, y, z -/
def mPar3 (i j l : Nat) (mr : MA) : MS := fun e m => sB (mr e m) e fun vs m1 => match vs with
  | [x, y, z] => .nx (((e.set i (some x)).set j (some y)).set l (some z)) m1
  | _ => .bad
theorem ss_par3 (i j l : Nat) {x y z : Str} {px py pz pt : Pos} {kt k2 pt2} {mr : MA} (hc : X.calm = true) (hN : X.N.Nodup) (hi : X.N[i]? = some x) (hj : X.N[j]? = some y) (hl : X.N[l]? = some z) (hij : i ≠ j) (hil : i ≠ l) (hjl : j ≠ l)
    (hx : X.env.scope.names.lookup x = some .local) (hy : X.env.scope.names.lookup y = some .local) (hz : X.env.scope.names.lookup z = some .local) (ha : SA X T W [a, b, c] mr)
    (hw : swappedStores [.Tuple [.Name x px, .Name y py, .Name z pz] kt pt] (.Tuple [a, b, c] k2 pt2) X.env = pure (some [x, y, z]) := by rfl)
    (hs : swapsWithSole [.Tuple [.Name x px, .Name y py, .Name z pz] kt pt] (.Tuple [a, b, c] k2 pt2) pos.line X.env = pure false := by rfl) :
    SS X T W (.Assign [.Tuple [.Name x px, .Name y py, .Name z pz] kt pt] (.Tuple [a, b, c] k2 pt2) pos) (mPar3 i j l mr) :=
  ⟨PS.imp (ps_par3 hc hN hi hj hl hij hil hjl hx hy hz ha.pa hw hs) fun D σ H ⟨av, r, e, m, re, rm, h⟩ => ⟨av, r, e, m, re, rm, okR_imp (okS_sB re h) fun vs m1 h r1 H1 ws g1 rm1 rv => by
    split at h
    · obtain ⟨u, v, w, rfl, hu, hv, hw⟩ := rvs3 rv
      exact ⟨u, v, w, rfl, h r1 H1 _ g1 rm1 ((((re.grow g1).set hu i).set hv j).set hw l)⟩
    · exact h.elim⟩⟩
end M

/-! tuple keys: in; sorted of a dict's keys -/
namespace M
open PySem PySem.Spec PyProof.Rows L2
variable {X : Cx} {T : Tx} {W : WX} {a b c : Expr} {ma mb mc : ME} {mt mu : MT} {ms mv : MS} {pos : Pos} {st : Stmt} {rest sts : List Stmt}
variable {av av' : Av} {r r' r2 : List Addr} {H H' H2 : Hp} {m m' : Mem} {tg iter : Expr}
def mInT (neg : Bool) (ma mb : ME) : ME := fun e m => (ma e m).bind fun y m1 => (mb e m1).bind fun x m2 => match lookT x y m2 with
  | some o => .ok (.bl (if neg then !o.isSome else o.isSome)) m2
  | none => .bad
theorem se_inT (hkt : T.kt = false) (hu : X.A.units + 1 < cLine) (ha : SE X T W a ma) (hb : SE X T W b mb) (hm : behindInMarks .In b = false) : SE X T W (.Compare a [.In] [b] pos) (mInT false ma mb) :=
  ⟨PE.imp (pe_cmp (pc_din hu ha.pe hb.pe) hm) fun σ H Q ⟨av, r, e, m, re, rm, h⟩ =>
    ⟨av, r, e, m, re, rm, okR_imp (okR_bind h) fun y m1 h r1 H1 w g1 rm1 rw => ⟨av, r1, e, m1, re.grow g1, rm1, okR_grow g1 (fun x m2 h r2 H2 v g2 rm2 rv => by
      split at h
      · rename_i o ho
        obtain ⟨a, z, rfl, hg, hz⟩ := lookT_ok hkt rm2 rv (rw.grow g2) ho
        refine ⟨a, z, rfl, hg, ?_⟩
        rw [optV_some hz]
        exact h r2 H2 _ (g1.trans g2) rm2 rv_bl
      · exact h.elim) (okR_bind h)⟩⟩⟩
theorem se_notinT (hkt : T.kt = false) (hu : X.A.units + 1 < cLine) (ha : SE X T W a ma) (hb : SE X T W b mb) (hm : behindInMarks .NotIn b = false) : SE X T W (.Compare a [.NotIn] [b] pos) (mInT true ma mb) :=
  ⟨PE.imp (pe_cmp (pc_dnotin hu ha.pe hb.pe) hm) fun σ H Q ⟨av, r, e, m, re, rm, h⟩ =>
    ⟨av, r, e, m, re, rm, okR_imp (okR_bind h) fun y m1 h r1 H1 w g1 rm1 rw => ⟨av, r1, e, m1, re.grow g1, rm1, okR_grow g1 (fun x m2 h r2 H2 v g2 rm2 rv => by
      split at h
      · rename_i o ho
        obtain ⟨a, z, rfl, hg, hz⟩ := lookT_ok hkt rm2 rv (rw.grow g2) ho
        refine ⟨a, z, rfl, hg, ?_⟩
        rw [optV_some hz]
        exact h r2 H2 _ (g1.trans g2) rm2 rv_bl
      · exact h.elim) (okR_bind h)⟩⟩⟩
theorem st_inT (hkt : T.kt = false) (hu : X.A.units + 1 < cLine) (ha : SE X T W a ma) (hb : SE X T W b mb) (hm : behindInMarks .In b = false) : ST X T W (.Compare a [.In] [b] pos) (mTb (mInT false ma mb)) :=
  ⟨PT.imp (pt_cmp (pc_din hu ha.pe hb.pe) hm) (tb_read (t := tDIn (tE T W ma) (tE T W mb)) fun σ H Q ⟨av, r, e, m, re, rm, h⟩ =>
    ⟨av, r, e, m, re, rm, okR_imp (okR_bind h) fun y m1 h r1 H1 w g1 rm1 rw => ⟨av, r1, e, m1, re.grow g1, rm1, okR_grow g1 (fun x m2 h r2 H2 v g2 rm2 rv => by
      split at h
      · rename_i o ho
        obtain ⟨a, z, rfl, hg, hz⟩ := lookT_ok hkt rm2 rv (rw.grow g2) ho
        refine ⟨a, z, rfl, hg, ?_⟩
        rw [optV_some hz]
        exact h r2 H2 _ (g1.trans g2) rm2 rv_bl
      · exact h.elim) (okR_bind h)⟩⟩)⟩
theorem st_notinT (hkt : T.kt = false) (hu : X.A.units + 1 < cLine) (ha : SE X T W a ma) (hb : SE X T W b mb) (hm : behindInMarks .NotIn b = false) : ST X T W (.Compare a [.NotIn] [b] pos) (mTb (mInT true ma mb)) :=
  ⟨PT.imp (pt_cmp (pc_dnotin hu ha.pe hb.pe) hm) (tb_read (t := tDNotIn (tE T W ma) (tE T W mb)) fun σ H Q ⟨av, r, e, m, re, rm, h⟩ =>
    ⟨av, r, e, m, re, rm, okR_imp (okR_bind h) fun y m1 h r1 H1 w g1 rm1 rw => ⟨av, r1, e, m1, re.grow g1, rm1, okR_grow g1 (fun x m2 h r2 H2 v g2 rm2 rv => by
      split at h
      · rename_i o ho
        obtain ⟨a, z, rfl, hg, hz⟩ := lookT_ok hkt rm2 rv (rw.grow g2) ho
        refine ⟨a, z, rfl, hg, ?_⟩
        rw [optV_some hz]
        exact h r2 H2 _ (g1.trans g2) rm2 rv_bl
      · exact h.elim) (okR_bind h)⟩⟩)⟩
def orF2 (f g : List PV → Mem → Option (List PV)) : List PV → Mem → Option (List PV) := fun xs m => match f xs m with
  | some z => some z
  | none => g xs m
theorem ClF.or {fv : Value} {f g : List PV → Mem → Option (List PV)} (h : ClF X T fv f) (h' : ClF X T fv g) : ClF X T fv (orF2 f g) := by
  obtain ⟨r1, o1, k1⟩ := h
  obtain ⟨r2, o2, k2⟩ := h'
  refine ⟨_, M.CallR.either o1 o2, fun {av r H m xs z vs Q} rm rv e k => ?_⟩
  unfold orF2 at e
  split at e
  · rename_i z' hz
    exact .inl (k1 rm rv (hz.trans e) k)
  · exact .inr (k2 rm rv e k)
/-- sorted(d), keys ints, fewer than 64 -/
def cSortDI : List PV → Mem → Option (List PV)
  | [x], m => match dctOf x m with
    | some (ks, _) => if flatKs ks && Nat.ble ks.length 63 then (match intsOf ks with
      | some ns => some ((sortI ns).map PV.int)
      | none => none) else none
    | none => none
  | _, _ => none
theorem intsOf_int : ∀ ns : List Int, intsOf (ns.map PV.int) = some ns
  | [] => rfl
  | n :: ns => by
    show (match intsOf (ns.map PV.int) with
      | some q => some (n :: q)
      | none => none) = some (n :: ns)
    rw [intsOf_int ns]
theorem keys_ints : ∀ {kvs : List (Key × V)} {ns : List Int}, intsOf (ksOf kvs) = some ns → kvs.map (·.1) = ns.map Sum.inl
  | [], ns, h => by
    have q := intsOf_eq h
    cases ns with
    | nil => rfl
    | cons n ns => cases q
  | (k, v) :: kvs, ns, h => by
    have q := intsOf_eq h
    cases ns with
    | nil => cases q
    | cons n ns =>
      rw [List.map_cons] at q
      have q1 : keyP k :: ksOf kvs = PV.int n :: ns.map PV.int := q
      injection q1 with q2 q3
      have e1 : k = Sum.inl n := by
        cases k with
        | inl i => injection q2 with q4; rw [q4]
        | inr s => cases q2
      have ih : kvs.map (·.1) = ns.map Sum.inl := keys_ints (by
        rw [q3]
        exact intsOf_int ns)
      rw [List.map_cons, List.map_cons, ih, e1]
theorem cf_sortDI (hc : X.calm = true) : ClF X T (.builtin "sorted") cSortDI := by
  refine ⟨_, call_sortedDI hc, fun {av r H m xs z vs Q} rm rv e k => ?_⟩
  unfold cSortDI at e
  split at e
  · split at e
    · rename_i x m ks ws hd
      split at e
      · rename_i hk
        rw [Bool.and_eq_true] at hk
        split at e
        · rename_i ns hn
          cases e
          obtain ⟨v, rfl, hv⟩ := rvs1 rv
          obtain ⟨a, vs, rfl, d, hw⟩ := dctOf_ok rm hv hd
          obtain ⟨kvs, h1, h2, h3⟩ := dk_flat d hk.1
          subst h2 h3
          have e1 := keys_ints hn
          have hl : ns.length < 64 := by
            have q := Nat.le_of_ble_eq_true hk.2
            have q2 := congrArg List.length (intsOf_eq hn)
            have q3 : (ns.map PV.int).length = ns.length := List.length_map ..
            omega
          refine ⟨a, kvs, ns, rfl, h1, e1, hl, fun ys p hp hu hq => ?_⟩
          rw [sortI_of hp hu]
          exact kf_new rm hq (rvs_intsB _) k
        · cases e
      · cases e
    · cases e
  · cases e
end M

/-! min(xs, default=d) -/
namespace PySem
namespace MnD
open Sem (wp)
theorem args (a d : Value) : argsOk "min" ⟨[a], [(Str.ofString "default", d)]⟩ := by unfold argsOk; kernel_rfl
/-- what the loop holds: nothing, or the best one of those ahead -/
def Best (P : Nat → Value → Prop) (bt : Nat → Nat → Bool) (j : Nat) : Option Value → Prop
  | none => j = 0
  | some v => 0 < j ∧ P (argBest bt (j - 1)) v
def heldIn (ob : Option Value) : Array Value := match ob with
  | none => #[]
  | some v => #[v, v]
section
variable {prog : Program} {w : World} {A : Around} {R : Result → Shared → Prop} {I : Addr} {fp wr : List Addr} {n : Nat} {P : Nat → Value → Prop} {St : Nat → Heap → Prop}
theorem run (W : Walks prog w A.in1 I fp wr n P St) (bt : Nat → Nat → Bool) (hcmp : CmpOf prog w A.in1 .Lt P bt) (S : Addr) (hSf : S ∉ fp) {dn : Str} {d : Value} :
    ∀ (k j : Nat) (s : Shared) (c : Nat) (ob : Option Value), n = j + k → St j s.heap → Best P bt j ob → s.heap.get? S = some { cls := .type "list", dict := none, data := .seq (heldIn ob) c, slots := #[] } →
    (∀ v h' tk, (n = 0 ∧ v = d) ∨ (0 < n ∧ P (argBest bt (n - 1)) v) → (∀ b o, b ∉ wr → b ≠ S → s.heap.get? b = some o → h'.get? b = some o) → R (.ok (.ret v)) { s with heap := h', toks := tk }) →
    codeAny (model prog w) A (.builtin "min.loop" ⟨[.ref I, .none, .ref S], [(dn, d)]⟩) R s := by
  have hSw : S ∉ wr := fun h => hSf (W.sub _ h)
  have nm : (toString "min" ++ toString ".loop" : String) = "min.loop" := by decide
  intro k
  induction k with
  | zero =>
    intro j s c ob hk hst hB hS hR
    have hj : j = n := by omega
    subst hj
    refine codeAny_builtin F.entry_min_loop ?_
    rw [Around.under_plainId F.plain_min_loop _]
    show wpAny _ A.in1 (seqItems? (.ref S) >>= _) _ _ s
    refine wpAny_bind (wpAny_seqItems hS rfl ?_)
    show wpAny _ A.in1 (tryCatch (pyNext (.ref I)) _ >>= _) _ _ s
    refine wpAny_bind (wpAny_tryCatch (W.done s _ _ hst fun h' tk keep => ?_))
    have hS' := keep S _ hSw hS
    cases ob with
    | none =>
      have z : j = 0 := hB
      show wpAny _ A.in1 (rule _ >>= _) _ _ _
      exact wpAny_bind (wpAny_rule (wpAny_pure (hR d _ tk (.inl ⟨z, rfl⟩) fun b o n1 n2 e => keep b o n1 e)))
    | some v =>
      obtain ⟨z, hp⟩ := (show 0 < j ∧ P (argBest bt (j - 1)) v from hB)
      have hS' : h'.get? S = some { cls := .type "list", dict := none, data := .seq #[v, v] c, slots := #[] } := hS'
      show wpAny _ A.in1 (updateSeq S (fun _ => #[]) >>= _) _ _ _
      refine wpAny_bind (wpAny_updateSeq hS' rfl (wpAny_bind (wpAny_letGo (wpAny_pure ?_))))
      exact hR v _ tk (.inr ⟨z, hp⟩) fun b o n1 n2 e => (Heap.get?_update_other _ _ (Ne.symm n2)).trans (keep b o n1 e)
  | succ k ih =>
    intro j s c ob hk hst hB hS hR
    have hlt : j < n := by omega
    refine codeAny_builtin F.entry_min_loop ?_
    rw [Around.under_plainId F.plain_min_loop _]
    show wpAny _ A.in1 (seqItems? (.ref S) >>= _) _ _ s
    refine wpAny_bind (wpAny_seqItems hS rfl ?_)
    show wpAny _ A.in1 (tryCatch (pyNext (.ref I)) _ >>= _) _ _ s
    refine wpAny_bind (wpAny_tryCatch (W.item j s _ _ hlt hst fun v h' tk hP hst' keep => ?_))
    have hS' := keep S _ hSw hS
    cases ob with
    | none =>
      have z : j = 0 := hB
      subst z
      show wpAny _ A.in1 (updateSeq S (fun _ => #[v, v]) >>= _) _ _ _
      refine wpAny_bind (wpAny_updateSeq hS' rfl ?_)
      rw [nm]
      refine wpAny_pure ⟨plainId_quiet F.plain_min_loop _, ih 1 _ _ (some v) (by omega) (W.frame _ _ _ hst' fun b hb o e => (Heap.get?_update_other _ _ (fun h : S = b => hSf (by rw [h]; exact hb))).trans e) ⟨by omega, hP⟩ (Heap.get?_update_self _ hS' rfl) fun v' h2 tk2 hp keep2 => ?_⟩
      exact hR v' h2 tk2 hp fun b o n1 n2 e => keep2 b o n1 n2 ((Heap.get?_update_other _ _ (Ne.symm n2)).trans (keep b o n1 e))
    | some vb =>
      obtain ⟨z, hp0⟩ := (show 0 < j ∧ P (argBest bt (j - 1)) vb from hB)
      obtain ⟨i, rfl⟩ : ∃ i, j = i + 1 := ⟨j - 1, by omega⟩
      have hp0 : P (argBest bt i) vb := hp0
      have hS' : h'.get? S = some { cls := .type "list", dict := none, data := .seq #[vb, vb] c, slots := #[] } := hS'
      show wpAny _ A.in1 (tryCatch (holding [v, v] (richCompare .Lt v vb >>= _)) _ >>= _) _ _ _
      refine wpAny_bind (wpAny_tryCatch (wpAny_holding (wpAny_bind (hcmp (i + 1) (argBest bt i) v vb _ _ _ hP hp0 ?_))))
      refine wpAny_bind (wpAny_holding (wpAny_truthy_bool ?_))
      refine wpAny_bind (wpAny_letGo (wpAny_pure ?_))
      cases hb : bt (i + 1) (argBest bt i) with
      | true =>
        simp only [if_true]
        refine wpAny_bind (wpAny_updateSeq hS' rfl (wpAny_bind (wpAny_letGo ?_)))
        rw [nm]
        refine wpAny_pure ⟨plainId_quiet F.plain_min_loop _, ih (i + 2) _ _ (some v) (by omega) (W.frame _ _ _ hst' fun b hb o e => (Heap.get?_update_other _ _ (fun h : S = b => hSf (by rw [h]; exact hb))).trans e) ⟨by omega, ?_⟩ (Heap.get?_update_self _ hS' rfl) fun v' h2 tk2 hp keep2 => ?_⟩
        · show P (argBest bt (i + 1)) v
          simp only [argBest, hb, if_true]
          exact hP
        · exact hR v' h2 tk2 hp fun b o n1 n2 e => keep2 b o n1 n2 ((Heap.get?_update_other _ _ (Ne.symm n2)).trans (keep b o n1 e))
      | false =>
        simp only [Bool.false_eq_true, if_false]
        refine wpAny_bind (wpAny_letGo ?_)
        rw [nm]
        refine wpAny_pure ⟨plainId_quiet F.plain_min_loop _, ih (i + 2) _ c (some vb) (by omega) hst' ⟨by omega, ?_⟩ hS' fun v' h2 tk2 hp keep2 => ?_⟩
        · show P (argBest bt (i + 1)) vb
          simp only [argBest, hb, Bool.false_eq_true, if_false]
          exact hp0
        · exact hR v' h2 tk2 hp fun b o n1 n2 e => keep2 b o n1 n2 (keep b o n1 e)
end
section
variable {prog : Program} {w : World} {A : Around} {E : Value → Shared → Prop} {s : Shared} {l : Addr} {xs : Array (Int × Tok)}
theorem tree_kw {id : String} {b : Builtin} {args : List Value} {kw : List (Str × Value)} {Q : Value → Shared → Prop} (hk : builtinKind id = none) (hp : plainId id = true) (hb : entryFor table id = some b) (ha : argsOk id ⟨args, kw⟩)
    (hc : wpAny (model prog w) A.in1 (b ⟨args, kw⟩) (fun fin s' => match fin with
      | .done f => (match (Except.ok f : Result) with | .ok (.ret v) => Q v s' | .ok _ => False | .error e => E e s')
      | .again c' => c'.quiet = true ∧ codeAny (model prog w) A c' (fun r s' => match r with | .ok (.ret v) => Q v s' | .ok _ => False | .error e => E e s') s') E s) : wpAny (model prog w) A (call (.builtin id) args kw) Q E s := by
  refine wpAny_call (codeAny_call_builtin hp hb ?_)
  simp only [checkBuiltinCall, hk]
  cases hsig : Manifest.signature? id with
  | none => exact wpAny_pure hc
  | some sig =>
    have ha' : Bind.checkArgs id sig ⟨args, kw⟩ = pure () := by simpa only [argsOk, hsig] using ha
    simp only [ha']
    exact wpAny_pure hc
theorem min_ints {d : Value} {Q : Value → Shared → Prop} (hh : A.handled = none) (hl : s.heap.IsList l (intItems xs))
    (h : ∀ v h' tk, ((intItems xs).size = 0 ∧ v = d) ∨ (0 < (intItems xs).size ∧ (intItems xs)[argBest (fun i j => decide (numAt xs i < numAt xs j)) ((intItems xs).size - 1)]? = some v) → (∀ b o, s.heap.get? b = some o → h'.get? b = some o) → Q v { s with heap := h', toks := tk }) :
    wpAny (model prog w) A (call (.builtin "min") [.ref l] [(Str.ofString "default", d)]) Q E s := by
  have nm : (toString "min" ++ toString ".loop" : String) = "min.loop" := by decide
  refine tree_kw F.kind_min F.plain_min F.entry_min (args _ _) ?_
  show wpAny _ A.in1 (Builtin.Builtins.bindParams "min" ["key", "default"] 0 ⟨[], [(Str.ofString "default", d)]⟩ >>= _) _ _ s
  refine wpAny_bind (wpAny_of_eq (show Builtin.Builtins.bindParams "min" ["key", "default"] 0 ⟨[], [(Str.ofString "default", d)]⟩ = pure [none, some d] from by first | rfl | kernel_rfl) ?_)
  refine wpAny_bind (wpAny_pure ?_)
  refine wpAny_bind (iter_intList hl fun s₂ e st hfp hlI => ?_)
  subst e
  refine wpAny_bind (wpAny_newObj_type ?_)
  have W := Walks.list (prog := prog) (w := w) (A := A.in1) hh s.heap.objs.size l hlI (intItems xs)
  rw [nm]
  refine wpAny_pure ⟨plainId_quiet F.plain_min_loop _, run W _ (CmpOf.ints_lt (numAt xs) (fun _ _ => intItems_at)) _ (fun hm => Nat.lt_irrefl _ (hfp _ hm)) (intItems xs).size 0 _ _ none (Nat.zero_add _).symm (W.frame _ _ _ st fun b _ o e => Heap.get?_push_of_some _ e) rfl (Heap.get?_push_size _ rfl) fun v h' tk hP keep => ?_⟩
  exact h v h' tk hP (old_kept fun b o n1 e => keep b o n1 (Nat.ne_of_lt (Heap.lt_size e)) (Heap.get?_push_of_some _ e))
end
end MnD
end PySem
namespace M
open PySem PySem.Spec PyProof.Rows L2
variable {X : Cx} {T : Tx} {W : WX} {a b c : Expr} {ma mb mc : ME} {mt mu : MT} {ms mv : MS} {pos : Pos} {st : Stmt} {rest sts : List Stmt}
variable {av av' : Av} {r r' r2 : List Addr} {H H' H2 : Hp} {m m' : Mem} {tg iter : Expr}
/-- min(xs, default=d) of a list of ints -/
def rMnD (K : PySem.W.Frag) : List V → List V → Hp → VK → Prop := fun vs zs H Q => ∃ (a : Addr) (ns : List Int) (d : V), vs = [V.ref a] ∧ zs = [d] ∧ SqL K H a (ns.map V.int) ∧
  (ns = [] → Q d H) ∧ ∀ m, m ∈ ns → (∀ y, y ∈ ns → m ≤ y) → Q (.int m) H
theorem cr_mnD (hc : X.calm = true) : CallRK X (.builtin "min") [Str.ofString "default"] (rMnD X.K) := by
  intro pins s σ H vs zs us ws Q I r rz h
  obtain ⟨a, ns, d, rfl, rfl, hs, q0, q⟩ := h
  obtain ⟨its, rv, hl, _⟩ := I.list hs
  rw [Vals.ref1 r]
  obtain ⟨w1, rfl, e1⟩ := vals1 rz
  have hi := rv.ints
  obtain ⟨xs, e⟩ := hi.allInts.items
  have hn : numsOf (intItems xs).toList = ns := by rw [← e]; exact hi.numsOf
  rw [nums_intItems] at hn
  have hl2 := hl.isList
  rw [e] at hl2
  refine PySem.MnD.min_ints (I.ok.hd hc) hl2 fun v h' tk hv hk => ?_
  rcases hv with ⟨z, rfl⟩ | ⟨z, hv⟩
  · have e0 : ns = [] := by
      rw [← hn]
      have z2 : xs.size = 0 := by simpa [intItems] using z
      rw [Array.eq_empty_of_size_eq_zero z2]; rfl
    exact ⟨d, H, I.kept hk, e1, q0 e0⟩
  · have z2 : 0 < xs.size := by simpa [intItems] using z
    have sz : (intItems xs).size = xs.size := by simp [intItems]
    rw [sz] at hv
    obtain ⟨t, rfl⟩ := intItems_at hv
    obtain ⟨h1, h2⟩ := argBest_lt (numAt xs) (xs.size - 1)
    subst hn
    refine ⟨.int _, H, I.kept hk, ⟨t, rfl⟩, q _ ?_ fun y hy => ?_⟩
    · rw [numAt_eq]; exact PySem.getD_mem (by rw [List.length_map, Array.length_toList]; omega)
    · obtain ⟨j, hj, rfl⟩ := mem_getD hy
      rw [List.length_map, Array.length_toList] at hj
      rw [← numAt_eq]; exact h2 j (by omega)
def minI : List Int → Int
  | [] => 0
  | [i] => i
  | i :: j :: l => let k := minI (j :: l); if i ≤ k then i else k
theorem minI_ok : ∀ (i : Int) (l : List Int), minI (i :: l) ∈ i :: l ∧ ∀ y, y ∈ i :: l → minI (i :: l) ≤ y
  | i, [] => ⟨by simp [minI], fun y h => by simp at h; rw [h]; exact Int.le_refl _⟩
  | i, j :: l => by
    obtain ⟨h1, h2⟩ := minI_ok j l
    show (if i ≤ minI (j :: l) then i else minI (j :: l)) ∈ _ ∧ ∀ y, y ∈ i :: j :: l → (if i ≤ minI (j :: l) then i else minI (j :: l)) ≤ y
    split
    · rename_i h
      exact ⟨List.mem_cons_self, fun y hy => by
        rcases List.mem_cons.mp hy with rfl | hy
        · exact Int.le_refl _
        · exact Int.le_trans h (h2 y hy)⟩
    · rename_i h
      exact ⟨List.mem_cons_of_mem _ h1, fun y hy => by
        rcases List.mem_cons.mp hy with rfl | hy
        · omega
        · exact h2 y hy⟩
def mMinD (ma mb : ME) : ME := fun e m => (ma e m).bind fun x m1 => (mb e m1).bind fun d m2 => match lstOf x m2 with
  | some xs => match intsOf xs with
    | some [] => .ok d m2
    | some (i :: l) => .ok (.int (minI (i :: l))) m2
    | none => .bad
  | none => .bad
theorem se_minD {p kpos : Pos} (hc : X.calm = true) (hg : Gl X "min") (hm : X.mg "min" = none) (ha : SE X T W a ma) (hb : SE X T W b mb) (hsa : starEach [a] X.env = (false, eval a X.env) :: starEach [] X.env := by rfl)
    (he : backTo pos (starEach [a] X.env) = (false, eval a X.env) :: backTo pos (starEach [] X.env) := by rfl) (hpl : (backTo pos (starEach [a] X.env)).any (·.1) = false := by rfl)
    (hall : (backToKw pos (keywordEach [⟨some "default", b, kpos⟩] X.env)).all (·.1.isSome) = true := by rfl) (hnone : (backToKw pos (keywordEach [⟨some "default", b, kpos⟩] X.env)).any (·.1.isNone) = false := by rfl) (hks : (backToKw pos (keywordEach [⟨some "default", b, kpos⟩] X.env)).filterMap (·.1) = [Str.ofString "default"] := by rfl) :
    SE X T W (.Call (.Name "min" p) [a] [⟨some "default", b, kpos⟩] pos) (mMinD ma mb) :=
  ⟨PE.imp (pe_callBK (cr_mnD hc) hg hm rfl (pa_cons ha.pe pa_nil hsa) (pk_cons hb.pe pk_nil) (by decide) (by decide) he hpl hall hnone hks) fun σ H Q ⟨av, r, e, m, re, rm, h⟩ =>
    ⟨av, r, e, m, re, rm, okR_imp (okR_bind h) fun x m1 h r1 H1 v g1 rm1 rv => ⟨av, r1, e, m1, re.grow g1, rm1, okR_grow g1 (fun d m2 h r2 H2 w g2 rm2 rw => by
      split at h
      · rename_i xs hx
        obtain ⟨a, vs, rfl, hA, hv⟩ := lstOf_ok rm2 (rv.grow g2) hx
        have g12 := g1.trans g2
        split at h
        · rename_i hn
          rw [intsOf_eq hn] at hv
          rw [rvs_ints hv] at hA
          exact ⟨a, [], w, rfl, rfl, .inl hA, fun _ => h r2 H2 _ g12 rm2 rw, fun m hm => by cases hm⟩
        · rename_i i l hn
          rw [intsOf_eq hn] at hv
          rw [rvs_ints hv] at hA
          obtain ⟨k1, k2⟩ := minI_ok i l
          refine ⟨a, i :: l, w, rfl, rfl, .inl hA, (fun z => by cases z), fun m hm hy => ?_⟩
          have e2 : m = minI (i :: l) := Int.le_antisymm (hy _ k1) (k2 m hm)
          subst e2
          exact h r2 H2 _ g12 rm2 rv_int
        · exact h.elim
      · exact h.elim) (okR_bind h)⟩⟩⟩
end M

/-! dicts whose keys are tuples within tuples: in, [] -/
namespace M
open PySem PySem.Spec PyProof.Rows L2
variable {X : Cx} {T : Tx} {W : WX} {a b c : Expr} {ma mb mc : ME} {mt mu : MT} {ms mv : MS} {pos : Pos} {st : Stmt} {rest sts : List Stmt}
variable {av av' : Av} {r r' r2 : List Addr} {H H' H2 : Hp} {m m' : Mem} {tg iter : Expr}
mutual
/-- a value that is this key -/
def KeyV (K : PySem.W.Frag) (H : Hp) : NestedKey → V → Prop
  | .none, v => v = .non
  | .num i, v => v = .int i
  | .text x, v => v = .str x
  | .tup ks, v => ∃ a vs, v = .ref a ∧ (H a = some (.tup vs) ∨ Kt K a vs) ∧ KeyVs K H ks vs
def KeyVs (K : PySem.W.Frag) (H : Hp) : List NestedKey → List V → Prop
  | [], vs => vs = []
  | k :: ks, vs => ∃ v ws, vs = v :: ws ∧ KeyV K H k v ∧ KeyVs K H ks ws
end
mutual
theorem keyV_ok : ∀ (x : PV) {k : NestedKey} {v : V}, nkOf x = some k → RV T av r H x v → KeyV T.K H k v
  | .non, k, v, e, h => by
    unfold nkOf at e; cases e
    unfold RV at h; unfold KeyV; exact h
  | .int i, k, v, e, h => by
    unfold nkOf at e; cases e
    unfold RV at h; unfold KeyV; exact h
  | .str i, k, v, e, h => by
    unfold nkOf at e; cases e
    unfold RV at h; unfold KeyV; exact h
  | .tup xs, k, v, e, h => by
    unfold nkOf at e
    obtain ⟨ks, e1, rfl⟩ := Option.map_eq_some_iff.mp e
    unfold RV at h
    obtain ⟨a, vs, rfl, h1, h2⟩ := h
    rcases h1 with ⟨_, d⟩ | ⟨_, d⟩
    · unfold KeyV
      exact ⟨a, vs, rfl, .inl d, keyVs_ok xs e1 h2⟩
    · unfold KeyV
      exact ⟨a, vs, rfl, .inr d, keyVs_ok xs e1 h2⟩
  | .bl _, _, _, e, _ => by unfold nkOf at e; cases e
  | .lst _, _, _, e, _ => by unfold nkOf at e; cases e
  | .ins _ _, _, _, e, _ => by unfold nkOf at e; cases e
  | .dtt _ _, _, _, e, _ => by unfold nkOf at e; cases e
  | .dct _ _, _, _, e, _ => by unfold nkOf at e; cases e
  | .glo _, _, _, e, _ => by unfold nkOf at e; cases e
  | .ref _, _, _, e, _ => by unfold nkOf at e; cases e
  | .exn _ _, _, _, e, _ => by unfold nkOf at e; cases e
  | .kst _, _, _, e, _ => by unfold nkOf at e; cases e
theorem keyVs_ok : ∀ (xs : List PV) {ks : List NestedKey} {vs : List V}, nksOf xs = some ks → RVs T av r H xs vs → KeyVs T.K H ks vs
  | [], ks, vs, e, h => by
    unfold nksOf at e; cases e
    unfold RVs at h; unfold KeyVs; exact h
  | x :: xs, ks, vs, e, h => by
    unfold nksOf at e
    split at e
    · rename_i k ks' e1 e2
      cases e
      unfold RVs at h
      obtain ⟨v, ws, rfl, h1, h2⟩ := h
      unfold KeyVs
      exact ⟨v, ws, rfl, keyV_ok x e1 h1, keyVs_ok xs e2 h2⟩
    · cases e
end
section
variable {pins : List (Addr × Obj)} {σ : L2.St} {s : Shared}
mutual
theorem nested_is (I : Inv X pins σ H s) : ∀ (k : NestedKey) {v : V} {u : Value}, KeyV X.K H k v → RelV v u → NestedIs s.heap k u
  | .none, v, u, h, q => by
    unfold KeyV at h; subst h
    obtain rfl : u = Value.none := q
    exact .none
  | .num i, v, u, h, q => by
    unfold KeyV at h; subst h
    obtain ⟨t, rfl⟩ := (show ∃ t, u = Value.int i t from q)
    exact .int i t
  | .text x, v, u, h, q => by
    unfold KeyV at h; subst h
    obtain ⟨t, rfl⟩ := (show ∃ t, u = Value.str x t from q)
    exact .text x t
  | .tup ks, v, u, h, q => by
    unfold KeyV at h
    obtain ⟨a, vs, rfl, d, hs⟩ := h
    obtain rfl : u = Value.ref a := q
    rcases d with d | ⟨o, its, n, h1, h2, h3, _, hv⟩
    · obtain ⟨_, its, hv, ht⟩ := (show vs.length ≤ sizeLine ∧ ∃ its : List Value, Vals vs its ∧ IsTup s.heap a its.toArray from I.hok a _ d)
      obtain ⟨o, h1, h2, n, h3⟩ := ht
      exact .tup h1 h2 h3 (nested_all I ks hs hv)
    · exact .tup (I.kIn a o h1) h2 h3 (nested_all I ks hs (by simpa using hv))
theorem nested_all (I : Inv X pins σ H s) : ∀ (ks : List NestedKey) {vs : List V} {us : List Value}, KeyVs X.K H ks vs → Vals vs us → NestedAll s.heap ks us
  | [], vs, us, h, q => by
    unfold KeyVs at h; subst h
    cases q
    exact .nil
  | k :: ks, vs, us, h, q => by
    unfold KeyVs at h
    obtain ⟨v, ws, rfl, h1, h2⟩ := h
    cases q with
    | cons q1 q2 => exact .cons (nested_is I k h1 q1) (nested_all I ks h2 q2)
end
end
end M

/-! dicts whose keys are tuples within tuples: the rules of HandS for them; d[k], in, d[k] = v -/
namespace M
open PySem PySem.Spec PyProof.Rows L2
variable {X : Cx} {T : Tx} {W : WX} {a b c : Expr} {ma mb mc : ME} {mt mu : MT} {ms mv : MS} {pos pos' : Pos} {st : Stmt} {rest sts : List Stmt}
variable {av av' : Av} {r r' r2 : List Addr} {H H' H2 : Hp} {m m' : Mem} {tg iter : Expr}
abbrev NXs := List (NestedKey × Addr × Value)
/-- the keys' own tuples stand -/
def NKs (K : PySem.W.Frag) (H : Hp) (xs : NXs) : Prop := ∀ x ∈ xs, KeyV K H x.1 (.ref x.2.1) ∧ x.1.depth ≤ 8
section
variable {pins : List (Addr × Obj)} {σ : L2.St} {s : Shared} {xs : NXs} {p q : Addr} {k : NestedKey} {A : Around} {E : Value → Shared → Prop}
theorem nd_of (I : Inv X pins σ H s) (e : H p = some (.ext (NDict X.prog X.w p xs))) (hk : NKs X.K H xs) : (p == sysModules) = false ∧ s.heap.DictOfH (nestedKind X.prog X.w) p xs := by
  obtain ⟨⟨hs, o, es, ep, h1, h2, h3, h4, h5⟩, _⟩ := (show NDict X.prog X.w p xs s.heap ∧ _ from I.hok p _ e)
  exact ⟨hs, o, es, ep, h1, h2, h3, h4, fun x hx => ⟨nested_is I x.1 (hk x hx).1 rfl, (hk x hx).2⟩, h5⟩
theorem nk_is (I : Inv X pins σ H s) (hq : KeyV X.K H k (.ref q)) (hd : k.depth ≤ 8) : (nestedKind X.prog X.w).is s.heap k q := ⟨nested_is I k hq rfl, hd⟩
theorem nroom (hu : A.units + 64 < cLine) : (nestedKind X.prog X.w).room A.in1 := by
  show A.units + 1 + 8 < cLine
  omega
/-- what the dict at p holds at the key at q -/
structure NGet (X : Cx) (H : Hp) (p : Addr) (xs : NXs) (k : NestedKey) (q : Addr) : Prop where
  d : H p = some (.ext (NDict X.prog X.w p xs))
  ks : NKs X.K H xs
  ky : KeyV X.K H k (.ref q)
  dp : k.depth ≤ 8
theorem n_getItem {Q : Value → Shared → Prop} {z : Addr × Value} (hu : A.units + 64 < cLine) (I : Inv X pins σ H s) (g : NGet X H p xs k q) (hz : atKey xs k = some z) (h : ∀ s', Inv X pins σ H s' → Q z.2 s') : wpAny (model X.prog X.w) A (getItem (.ref p) (.ref q)) Q E s :=
  wpAny_getItem_heap (nroom hu) (nk_is I g.ky g.dp) (nd_of I g.d g.ks).2 hz (h _ (I.tok _))
theorem n_in {Q : Value → Shared → Prop} (hu : A.units + 64 < cLine) (I : Inv X pins σ H s) (g : NGet X H p xs k q) (h : ∀ s', Inv X pins σ H s' → Q (.bool (atKey xs k).isSome) s') : wpAny (model X.prog X.w) A (compareOp .In (.ref q) (.ref p)) Q E s :=
  wpAny_in_heap (nroom hu) (nk_is I g.ky g.dp) (nd_of I g.d g.ks).1 (nd_of I g.d g.ks).2 (h _ (I.tok _))
theorem n_notIn {Q : Value → Shared → Prop} (hu : A.units + 64 < cLine) (I : Inv X pins σ H s) (g : NGet X H p xs k q) (h : ∀ s', Inv X pins σ H s' → Q (.bool (!(atKey xs k).isSome)) s') : wpAny (model X.prog X.w) A (compareOp .NotIn (.ref q) (.ref p)) Q E s :=
  wpAny_notIn_heap (nroom hu) (nk_is I g.ky g.dp) (nd_of I g.d g.ks).1 (nd_of I g.d g.ks).2 (h _ (I.tok _))
theorem nd_new {h' : Heap} {ys : NXs} (hs : (p == sysModules) = false) (dd : h'.DictOfH (nestedKind X.prog X.w) p ys) : ObjOk X.prog X.w (upd H p (.ext (NDict X.prog X.w p ys))) h' p (.ext (NDict X.prog X.w p ys)) := by
  obtain ⟨o, es, ep, h1, h2, h3, h4, _, h5⟩ := dd
  exact ⟨⟨hs, o, es, ep, h1, h2, h3, h4, h5⟩, ⟨o, h1⟩, fun h1' h2' ⟨hs, o, es, ep, z1, z⟩ f => ⟨hs, o, es, ep, f o z1, z⟩⟩
theorem n_setItem {Q : Unit → Shared → Prop} {v : Value} (hu : A.units + 64 < cLine) (I : Inv X pins σ H s) (g : NGet X H p xs k q) (hz : xs.length < sizeLine) (h : ∀ s', Inv X pins σ (upd H p (.ext (NDict X.prog X.w p (storedH xs k q v)))) s' → Q () s') : wpAny (model X.prog X.w) A (setItem (.ref p) (.ref q) v) Q E s := by
  obtain ⟨hs, dd⟩ := nd_of I g.d g.ks
  refine wpAny_setItem_heap (hsz := Nat.le_of_lt hz) (nroom hu) (nk_is I g.ky g.dp) dd fun h' dd' hb => h _ ?_
  have he : ∃ q, h'.get? p = some q := let ⟨q, _, _, hq, _⟩ := dd'; ⟨q, hq⟩
  exact d_write I (by rw [g.d]; exact True.intro) hb he (nd_new hs dd')
end
/-! ### readings -/
def tNGet (X : Cx) (td ty : TE) : TE := fun σ H Q => td σ H fun x H1 => ty σ H1 fun y H2 => ∃ p q xs k z, x = .ref p ∧ y = .ref q ∧ NGet X H2 p xs k q ∧ atKey xs k = some z ∧ ∃ v, RelV v z.2 ∧ Q v H2
def tNIn (X : Cx) (n : Bool) (ty td : TE) : TE := fun σ H Q => ty σ H fun y H1 => td σ H1 fun x H2 => ∃ p q xs k, x = .ref p ∧ y = .ref q ∧ NGet X H2 p xs k q ∧ Q (.bl (n ^^ (atKey xs k).isSome)) H2
def sNPut (X : Cx) (td ty tv : TE) : TS := fun D σ H => tv σ H fun v H1 => td σ H1 fun x H2 => ty σ H2 fun y H3 => ∃ p q xs k, x = .ref p ∧ y = .ref q ∧ NGet X H3 p xs k q ∧ xs.length < sizeLine ∧ ∀ u, RelV v u → D.nx σ (upd H3 p (.ext (NDict X.prog X.w p (storedH xs k q u))))
section
variable {o i e value : Expr} {td ty tv : TE}
theorem pe_nget (hu : X.A.units + 64 < cLine) (ho : PE X o td) (hi : PE X i ty) (hs : NoSl i) : PE X (.Subscript o i pos) (tNGet X td ty) := by
  refine ⟨fun pins s σ H Q I h => ?_⟩
  refine subD_of PySem.F.slot_dict_getitem.lookup hs (thn (ho.run pins s σ H _ I h) fun u s1 ⟨x, H1, I1, rx, q1⟩ => thn (hi.run pins s1 σ H1 _ I1 q1) fun iv s2 ⟨y, H2, I2, ry, p, q, xs, k, z, ex, ey, g, hz, v, rv, q2⟩ => ?_)
  subst ex ey
  obtain rfl : u = Value.ref p := rx
  obtain rfl : iv = Value.ref q := ry
  exact ⟨(nd_of I2 g.d g.ks).2.typeIs, n_getItem hu I2 g hz fun s3 I3 => ⟨v, H2, I3, rv, q2⟩⟩
theorem pc_nin (hu : X.A.units + 64 < cLine) (hi : PE X i ty) (ho : PE X o td) : PC X .In i o (tNIn X false ty td) := by
  refine ⟨fun pins s σ H Q I h => ?_⟩
  refine thn (hi.run pins s σ H _ I h) fun iv s1 ⟨y, H1, I1, ry, q1⟩ => thn (ho.run pins s1 σ H1 _ I1 q1) fun u s2 ⟨x, H2, I2, rx, p, q, xs, k, ex, ey, g, q2⟩ => ?_
  subst ex ey
  obtain rfl : u = Value.ref p := rx
  obtain rfl : iv = Value.ref q := ry
  exact n_in hu I2 g fun s3 I3 => ⟨.bl _, H2, I3, by rw [Bool.false_xor]; rfl, q2⟩
theorem pc_nnotin (hu : X.A.units + 64 < cLine) (hi : PE X i ty) (ho : PE X o td) : PC X .NotIn i o (tNIn X true ty td) := by
  refine ⟨fun pins s σ H Q I h => ?_⟩
  refine thn (hi.run pins s σ H _ I h) fun iv s1 ⟨y, H1, I1, ry, q1⟩ => thn (ho.run pins s1 σ H1 _ I1 q1) fun u s2 ⟨x, H2, I2, rx, p, q, xs, k, ex, ey, g, q2⟩ => ?_
  subst ex ey
  obtain rfl : u = Value.ref p := rx
  obtain rfl : iv = Value.ref q := ry
  exact n_notIn hu I2 g fun s3 I3 => ⟨.bl _, H2, I3, by rw [Bool.true_xor]; rfl, q2⟩
theorem ps_nput (hu : X.A.units + 64 < cLine) (ho : PE X o td) (hi : PE X i ty) (hv : PE X value tv) (hs : swapsWith value (some (.Subscript o i pos')) pos.line X.env = pure false) :
    PS X (.Assign [.Subscript o i pos'] value pos) (sNPut X td ty tv) := by
  refine ⟨fun pins s σ H D I h => ?_⟩
  refine wpAny_Assign_Subscript (thn (hv.run pins s σ H _ I h) fun r s1 ⟨v, H1, I1, rv, q1⟩ => thn (ho.run pins s1 σ H1 _ I1 q1) fun u s2 ⟨x, H2, I2, rx, q2⟩ => thn (hi.run pins s2 σ H2 _ I2 q2) fun iv s3 ⟨y, H3, I3, ry, p, q, xs, k, ex, ey, g, hz, q3⟩ => ?_) hs
  subst ex ey
  obtain rfl : u = Value.ref p := rx
  obtain rfl : iv = Value.ref q := ry
  exact n_setItem hu I3 g hz fun s4 I4 => ⟨σ, _, I4, q3 r rv⟩
end
end M

/-! dicts whose keys are tuples within tuples: the mirrors -/
namespace M
open PySem PySem.Spec PyProof.Rows L2
variable {X : Cx} {T : Tx} {W : WX} {a b c : Expr} {ma mb mc : ME} {mt mu : MT} {ms mv : MS} {pos : Pos} {st : Stmt} {rest sts : List Stmt}
variable {av av' : Av} {r r' r2 : List Addr} {H H' H2 : Hp} {m m' : Mem} {tg iter : Expr}
/-- the text's program and world are those of the context -/
def PW2 (X : Cx) (T : Tx) : Prop := T.P = X.prog ∧ T.w = X.w ∧ T.K = X.K
def getN (k : NestedKey) : List PV → List PV → Option PV
  | p :: ks, w :: ws => match nkOf p with
    | some q => if NestedKey.beq q k then some w else getN k ks ws
    | none => getN k ks ws
  | _, _ => none
theorem nksOf_cons {k : NestedKey} {ks : List NestedKey} : ∀ {ps : List PV}, nksOf ps = some (k :: ks) → ∃ p qs, ps = p :: qs ∧ nkOf p = some k ∧ nksOf qs = some ks
  | [], h => by unfold nksOf at h; cases h
  | p :: qs, h => by
    unfold nksOf at h
    split at h
    · rename_i k1 ks1 h1 h2
      cases h
      exact ⟨p, qs, rfl, h1, h2⟩
    · cases h
theorem nksOf_nil : ∀ {ps : List PV}, nksOf ps = some [] → ps = []
  | [], _ => rfl
  | p :: qs, h => by
    unfold nksOf at h
    split at h <;> cases h
theorem atKey_pos {k : NestedKey} {x : NestedKey × Addr × Value} {xs : NXs} (h : x.1 = k) : atKey (x :: xs) k = some x.2 := by
  unfold atKey
  rw [List.find?_cons_of_pos (by simpa using h)]; rfl
theorem atKey_neg {k : NestedKey} {x : NestedKey × Addr × Value} {xs : NXs} (h : ¬ x.1 = k) : atKey (x :: xs) k = atKey xs k := by
  unfold atKey
  rw [List.find?_cons_of_neg (by simpa using h)]
theorem beq_if {α : Type} {p k : NestedKey} {x y : α} : (if NestedKey.beq p k then x else y) = if p = k then x else y := by
  rw [← NestedKey.decide_eq]
  by_cases h : p = k <;> simp [h]
theorem getN_ok {k : NestedKey} : ∀ {xs : NXs} {ks ws : List PV} {vs : List V}, nksOf ks = some (xs.map (·.1)) → RVs T av r H ws vs → Vals vs (xs.map (·.2.2)) → match getN k ks ws with
    | some w => ∃ z v, atKey xs k = some z ∧ RelV v z.2 ∧ RV T av r H w v
    | none => atKey xs k = none
  | [], ks, ws, vs, h, hw, hv => by
    rw [nksOf_nil h]
    show atKey [] k = none
    rfl
  | x :: xs, ks, ws, vs, h, hw, hv => by
    obtain ⟨p, qs, rfl, h1, h2⟩ := nksOf_cons h
    cases hv with
    | cons v1 v2 =>
      obtain ⟨w, ws', rfl, w1, w2⟩ : ∃ w ws', ws = w :: ws' ∧ RV T av r H w _ ∧ RVs T av r H ws' _ := by
        cases ws with
        | nil => unfold RVs at hw; cases hw
        | cons w ws' =>
          unfold RVs at hw
          obtain ⟨_, _, e, q1, q2⟩ := hw
          cases e
          exact ⟨w, ws', rfl, q1, q2⟩
      have e : getN k (p :: qs) (w :: ws') = if x.1 = k then some w else getN k qs ws' := by
        show (match nkOf p with
          | some q => if NestedKey.beq q k then some w else getN k qs ws'
          | none => getN k qs ws') = _
        rw [h1]
        exact beq_if
      rw [e]
      by_cases q : x.1 = k
      · rw [if_pos q]
        exact ⟨x.2, _, atKey_pos q, v1, w1⟩
      · rw [if_neg q, atKey_neg q]
        exact getN_ok h2 w2 v2
theorem nks_of : ∀ {xs : NXs} {ks : List PV}, nksOf ks = some (xs.map (·.1)) → RVs T av r H ks (xs.map fun x => V.ref x.2.1) → (∀ x ∈ xs, x.1.depth ≤ 8) → NKs T.K H xs
  | [], _, _, _, _ => fun x hx => (List.not_mem_nil hx).elim
  | x :: xs, ks, h, hr, hd => by
    obtain ⟨p, qs, rfl, h1, h2⟩ := nksOf_cons h
    unfold RVs at hr
    obtain ⟨v, ws, e, q1, q2⟩ := hr
    cases e
    intro y hy
    rcases List.mem_cons.mp hy with rfl | hy
    · exact ⟨keyV_ok p h1 q1, hd _ List.mem_cons_self⟩
    · exact nks_of h2 q2 (fun z hz => hd z (List.mem_cons_of_mem _ hz)) y hy
def dnnOf : PV → Mem → Option (List PV × List PV)
  | .ref i, m => match m[i]? with
    | some (.dnn ks ws) => some (ks, ws)
    | _ => none
  | _, _ => none
def dpOk (k : NestedKey) : Bool := Nat.ble k.depth 8
/-- a tuple that is such a key -/
def nkT : PV → Option NestedKey
  | .tup xs => match nksOf xs with
    | some ks => if dpOk (.tup ks) then some (.tup ks) else none
    | none => none
  | _ => none
theorem nkT_ok {y : PV} {w : V} {k : NestedKey} (h : nkT y = some k) (rw0 : RV T av r H y w) : ∃ q, w = .ref q ∧ KeyV T.K H k (.ref q) ∧ k.depth ≤ 8 ∧ nkOf y = some k := by
  unfold nkT at h
  split at h
  · rename_i xs
    split at h
    · rename_i ks hk
      split at h
      · rename_i hd
        cases h
        have e : nkOf (.tup xs) = some (.tup ks) := by unfold nkOf; rw [hk]; rfl
        have kv := keyV_ok _ e rw0
        have kv2 := kv
        unfold KeyV at kv2
        obtain ⟨q, vs, rfl, _⟩ := kv2
        exact ⟨q, rfl, kv, Nat.le_of_ble_eq_true hd, e⟩
      · cases h
    · cases h
  · cases h
def lookN (x y : PV) (m : Mem) : Option (Option PV) := match dnnOf x m, nkT y with
  | some (ks, ws), some k => some (getN k ks ws)
  | _, _ => none
theorem dnnOf_ok {x : PV} {v : V} {ks ws : List PV} (rm : RM T av r H m) (rv : RV T av r H x v) (h : dnnOf x m = some (ks, ws)) : ∃ (i : Nat) (p : Addr), x = .ref i ∧ v = .ref p ∧ r[i]? = some p ∧ m[i]? = some (.dnn ks ws) ∧ RO T av r H (.dnn ks ws) p := by
  unfold dnnOf at h
  split at h
  · split at h
    · rename_i i m ks' ws' hx
      cases h
      unfold RV at rv
      obtain ⟨p, h1, rfl⟩ := rv
      exact ⟨i, p, rfl, rfl, h1, hx, rm.ob _ _ p hx h1⟩
    · cases h
  · cases h
def LkN (T : Tx) (av : Av) (r : List Addr) (H : Hp) (xs : NXs) (k : NestedKey) : Option PV → Prop
  | some u => ∃ z v, atKey xs k = some z ∧ RelV v z.2 ∧ RV T av r H u v
  | none => atKey xs k = none
theorem lookN_ok (hp : PW2 X T) {x y : PV} {v w : V} {o : Option PV} (rm : RM T av r H m) (rv : RV T av r H x v) (rw0 : RV T av r H y w) (h : lookN x y m = some o) :
    ∃ p q xs k, v = .ref p ∧ w = .ref q ∧ NGet X H p xs k q ∧ LkN T av r H xs k o := by
  unfold lookN at h
  split at h
  · rename_i ks ws k hd hk
    have eo := Option.some.inj h
    clear h
    obtain ⟨i, p, rfl, rfl, hr, hm, ⟨xs, vs, h1, h2, h3, h4, h5, h6⟩⟩ := dnnOf_ok rm rv hd
    obtain ⟨q, rfl, k1, k2, _⟩ := nkT_ok hk rw0
    rw [hp.1, hp.2.1] at h1
    refine ⟨p, q, xs, k, rfl, rfl, ⟨h1, hp.2.2 ▸ nks_of h2 h3 h6, hp.2.2 ▸ k1, k2⟩, ?_⟩
    have z := getN_ok (k := k) h2 h4 h5
    rw [← eo]
    cases hu : getN k ks ws with
    | none => rw [hu] at z; exact z
    | some u => rw [hu] at z; exact z
  · cases h
/-- d[k] -/
def mGetN (ma mb : ME) : ME := fun e m => (ma e m).bind fun x m1 => (mb e m1).bind fun y m2 => match lookN x y m2 with
  | some (some w) => .ok w m2
  | _ => .bad
theorem se_getN (hp : PW2 X T) (hu : X.A.units + 64 < cLine) (ha : SE X T W a ma) (hb : SE X T W b mb) (hs : NoSl b) : SE X T W (.Subscript a b pos) (mGetN ma mb) :=
  ⟨PE.imp (pe_nget hu ha.pe hb.pe hs) fun σ H Q ⟨av, r, e, m, re, rm, h⟩ =>
    ⟨av, r, e, m, re, rm, okR_imp (okR_bind h) fun x m1 h r1 H1 v g1 rm1 rv => ⟨av, r1, e, m1, re.grow g1, rm1, okR_grow g1 (fun y m2 h r2 H2 w g2 rm2 rw2 => by
      split at h
      · rename_i u hl
        obtain ⟨p, q, xs, k, rfl, rfl, g, z, v, hz, rv', ru⟩ := lookN_ok hp rm2 (rv.grow g2) rw2 hl
        exact ⟨p, q, xs, k, z, rfl, rfl, g, hz, v, rv', h r2 H2 _ (g1.trans g2) rm2 ru⟩
      · exact h.elim) (okR_bind h)⟩⟩⟩
def mInN (neg : Bool) (ma mb : ME) : ME := fun e m => (ma e m).bind fun y m1 => (mb e m1).bind fun x m2 => match lookN x y m2 with
  | some o => .ok (.bl (neg ^^ o.isSome)) m2
  | none => .bad
theorem look_some {xs : NXs} {k : NestedKey} {o : Option PV} (h : LkN T av r H xs k o) : (atKey xs k).isSome = o.isSome := by
  cases o with
  | some u => obtain ⟨z, v, e, _⟩ := h; rw [e]; rfl
  | none => rw [show atKey xs k = none from h]; rfl
theorem readN {neg : Bool} (hp : PW2 X T) : ∀ σ H Q, tE T W (mInN neg ma mb) σ H Q → tNIn X neg (tE T W ma) (tE T W mb) σ H Q := fun σ H Q ⟨av, r, e, m, re, rm, h⟩ =>
    ⟨av, r, e, m, re, rm, okR_imp (okR_bind h) fun y m1 h r1 H1 w g1 rm1 rw => ⟨av, r1, e, m1, re.grow g1, rm1, okR_grow g1 (fun x m2 h r2 H2 v g2 rm2 rv => by
      split at h
      · rename_i o ho
        obtain ⟨p, q, xs, k, rfl, rfl, g, hz⟩ := lookN_ok hp rm2 rv (rw.grow g2) ho
        refine ⟨p, q, xs, k, rfl, rfl, g, ?_⟩
        rw [look_some hz]
        exact h r2 H2 _ (g1.trans g2) rm2 rv_bl
      · exact h.elim) (okR_bind h)⟩⟩
theorem se_inN (hp : PW2 X T) (hu : X.A.units + 64 < cLine) (ha : SE X T W a ma) (hb : SE X T W b mb) (hm : behindInMarks .In b = false) : SE X T W (.Compare a [.In] [b] pos) (mInN false ma mb) :=
  ⟨PE.imp (pe_cmp (pc_nin hu ha.pe hb.pe) hm) (readN hp)⟩
theorem se_notinN (hp : PW2 X T) (hu : X.A.units + 64 < cLine) (ha : SE X T W a ma) (hb : SE X T W b mb) (hm : behindInMarks .NotIn b = false) : SE X T W (.Compare a [.NotIn] [b] pos) (mInN true ma mb) :=
  ⟨PE.imp (pe_cmp (pc_nnotin hu ha.pe hb.pe) hm) (readN hp)⟩
theorem st_inN (hp : PW2 X T) (hu : X.A.units + 64 < cLine) (ha : SE X T W a ma) (hb : SE X T W b mb) (hm : behindInMarks .In b = false) : ST X T W (.Compare a [.In] [b] pos) (mTb (mInN false ma mb)) :=
  ⟨PT.imp (pt_cmp (pc_nin hu ha.pe hb.pe) hm) (tb_read (t := tNIn X false (tE T W ma) (tE T W mb)) (readN hp))⟩
theorem st_notinN (hp : PW2 X T) (hu : X.A.units + 64 < cLine) (ha : SE X T W a ma) (hb : SE X T W b mb) (hm : behindInMarks .NotIn b = false) : ST X T W (.Compare a [.NotIn] [b] pos) (mTb (mInN true ma mb)) :=
  ⟨PT.imp (pt_cmp (pc_nnotin hu ha.pe hb.pe) hm) (tb_read (t := tNIn X true (tE T W ma) (tE T W mb)) (readN hp))⟩
/-! ### a new one, d[k] = v -/
section
variable {pins : List (Addr × Obj)} {σ : L2.St} {s : Shared}
def tNNew (X : Cx) : TE := fun _ H Q => ∀ p, H p = none → Q (.ref p) (upd H p (.ext (NDict X.prog X.w p [])))
theorem pe_nnew : PE X (.Dict [] [] pos) (tNNew X) := ⟨fun pins s σ H Q I h =>
  wpAny_Dict_empty ⟨.ref s.heap.objs.size, _, I.laid (a := s.heap.objs.size) (o := .ext (NDict X.prog X.w s.heap.objs.size [])) (t' := s.toks) (fun _ _ q => Heap.get?_push_of_some _ q) (Nat.le_refl _)
    (nd_new (beq_eq_false_iff_ne.mpr (Ne.symm (Nat.ne_of_lt I.big))) (Heap.DictOfH.new s.heap)), rfl, h _ (I.hok.fresh (Nat.le_refl _))⟩⟩
end
def mDNN : ME := fun _ m => .ok (.ref m.length) (m ++ [.dnn [] []])
theorem se_dnn (hp : PW2 X T) : SE X T W (.Dict [] [] pos) mDNN :=
  ⟨PE.imp pe_nnew fun σ H Q ⟨av, r, e, m, re, rm, h⟩ p hp' => by
    have ra := rm.away (o := .ext (NDict X.prog X.w p [])) hp'
    have np := rm.fresh hp'
    exact h (r ++ [p]) _ (.ref p) (grow_held (grow_upd hp') (soft hp')) (ra.held np ⟨[], [], by rw [hp.1, hp.2.1]; exact upd_same, rfl, by unfold RVs; rfl, by unfold RVs; rfl, .nil, fun x hx => (List.not_mem_nil hx).elim⟩) (by unfold RV; exact ⟨p, by rw [← rm.len]; simp, rfl⟩)⟩
def setN (k : NestedKey) (v : PV) : List PV → List PV → List PV
  | p :: ks, w :: ws => (match nkOf p with
    | some q => if NestedKey.beq q k then v else w
    | none => w) :: setN k v ks ws
  | _, ws => ws
def putN (ks ws : List PV) (k : NestedKey) (y v : PV) : List PV × List PV := match getN k ks ws with
  | some _ => (ks, setN k v ks ws)
  | none => (ks ++ [y], ws ++ [v])
theorem nksOf_app : ∀ {ks : List PV} {ns : List NestedKey} {y : PV} {k : NestedKey}, nksOf ks = some ns → nkOf y = some k → nksOf (ks ++ [y]) = some (ns ++ [k])
  | [], ns, y, k, h, hy => by
    unfold nksOf at h; cases h
    show nksOf [y] = some [k]
    unfold nksOf nksOf
    rw [hy]
  | p :: ks, ns, y, k, h, hy => by
    unfold nksOf at h
    split at h
    · rename_i k1 ks1 h1 h2
      cases h
      show nksOf (p :: (ks ++ [y])) = _
      unfold nksOf
      rw [h1, nksOf_app h2 hy]
      rfl
    · cases h
theorem setN_ok {k : NestedKey} {v : PV} {z : V} {u : Value} (hz : RV T av r H v z) (hu : RelV z u) : ∀ {xs : NXs} {ks ws : List PV} {vs : List V}, nksOf ks = some (xs.map (·.1)) → RVs T av r H ws vs → Vals vs (xs.map (·.2.2)) →
    ∃ vs', RVs T av r H (setN k v ks ws) vs' ∧ Vals vs' ((xs.map (putAt k u)).map (·.2.2))
  | [], ks, ws, vs, h, hw, hv => by
    rw [nksOf_nil h]
    cases hv
    have e : ws = [] := by
      cases ws with
      | nil => rfl
      | cons w ws => unfold RVs at hw; obtain ⟨_, _, e, _⟩ := hw; cases e
    subst e
    exact ⟨[], hw, .nil⟩
  | x :: xs, ks, ws, vs, h, hw, hv => by
    obtain ⟨p, qs, rfl, h1, h2⟩ := nksOf_cons h
    cases hv with
    | cons v1 v2 =>
      obtain ⟨w, ws', rfl, w1, w2⟩ : ∃ w ws', ws = w :: ws' ∧ RV T av r H w _ ∧ RVs T av r H ws' _ := by
        cases ws with
        | nil => unfold RVs at hw; cases hw
        | cons w ws' =>
          unfold RVs at hw
          obtain ⟨_, _, e, q1, q2⟩ := hw
          cases e
          exact ⟨w, ws', rfl, q1, q2⟩
      obtain ⟨vs', i1, i2⟩ := setN_ok hz hu (k := k) h2 w2 v2
      have e : setN k v (p :: qs) (w :: ws') = (if x.1 = k then v else w) :: setN k v qs ws' := by
        show (match nkOf p with
          | some q => if NestedKey.beq q k then v else w
          | none => w) :: setN k v qs ws' = _
        rw [h1]
        show (if NestedKey.beq x.1 k then v else w) :: _ = _
        rw [beq_if]
      rw [e]
      by_cases q : x.1 = k
      · rw [if_pos q]
        refine ⟨z :: vs', by unfold RVs; exact ⟨z, vs', rfl, hz, i1⟩, ?_⟩
        rw [List.map_cons, List.map_cons, show putAt k u x = (x.1, x.2.1, u) by unfold putAt; rw [if_pos q]]
        exact .cons hu i2
      · rw [if_neg q]
        refine ⟨_ :: vs', by unfold RVs; exact ⟨_, vs', rfl, w1, i1⟩, ?_⟩
        rw [List.map_cons, List.map_cons, show putAt k u x = x by unfold putAt; rw [if_neg q]]
        exact .cons v1 i2
theorem Vals.snoc : ∀ {vs : List V} {us : List Value} {v : V} {u : Value}, Vals vs us → RelV v u → Vals (vs ++ [v]) (us ++ [u])
  | _, _, _, _, .nil, h => .cons h .nil
  | _, _, _, _, .cons a t, h => .cons a (Vals.snoc t h)
theorem putN_ok {k : NestedKey} {v y : PV} {z : V} {u : Value} {q : Addr} (hz : RV T av r H v z) (hu : RelV z u) (hy : nkOf y = some k) (rq : RV T av r H y (.ref q)) (dp : k.depth ≤ 8) {xs : NXs} {ks ws : List PV} {vs : List V}
    (h2 : nksOf ks = some (xs.map (·.1))) (h3 : RVs T av r H ks (xs.map fun x => V.ref x.2.1)) (h4 : RVs T av r H ws vs) (h5 : Vals vs (xs.map (·.2.2))) (h6 : ∀ x ∈ xs, x.1.depth ≤ 8) :
    nksOf (putN ks ws k y v).1 = some ((storedH xs k q u).map (·.1)) ∧ RVs T av r H (putN ks ws k y v).1 ((storedH xs k q u).map fun x => V.ref x.2.1) ∧
      (∃ vs', RVs T av r H (putN ks ws k y v).2 vs' ∧ Vals vs' ((storedH xs k q u).map (·.2.2))) ∧ ∀ x ∈ storedH xs k q u, x.1.depth ≤ 8 := by
  have g := getN_ok (k := k) h2 h4 h5
  unfold putN
  cases e : getN k ks ws with
  | some w =>
    rw [e] at g
    obtain ⟨p, v0, hp, _⟩ := g
    rw [storedH_old hp, keys_map_putAt]
    have e2 : (xs.map (putAt k u)).map (fun x => V.ref x.2.1) = xs.map fun x => V.ref x.2.1 := by
      rw [List.map_map]
      refine List.map_congr_left fun x _ => ?_
      show V.ref (putAt k u x).2.1 = V.ref x.2.1
      unfold putAt
      split <;> rfl
    rw [e2]
    refine ⟨h2, h3, setN_ok hz hu h2 h4 h5, fun x hx => ?_⟩
    have : x.1 ∈ (xs.map (putAt k u)).map (·.1) := List.mem_map.mpr ⟨x, hx, rfl⟩
    rw [keys_map_putAt] at this
    obtain ⟨y, hy, e3⟩ := List.mem_map.mp this
    rw [← e3]
    exact h6 y hy
  | none =>
    rw [e] at g
    rw [storedH_new g, List.map_append, List.map_append, List.map_append]
    refine ⟨nksOf_app h2 hy, h3.append (by unfold RVs; exact ⟨_, [], rfl, rq, by unfold RVs; rfl⟩), ⟨vs ++ [z], h4.append (by unfold RVs; exact ⟨z, [], rfl, hz, by unfold RVs; rfl⟩), Vals.snoc h5 hu⟩, fun x hx => ?_⟩
    rcases List.mem_append.mp hx with q1 | q1
    · exact h6 x q1
    · obtain rfl := List.mem_singleton.mp q1
      exact dp
def wrN (x o y : PV) (m : Mem) : Option Mem := match o, nkT y with
  | .ref j, some k => match m[j]? with
    | some (.dnn ks ws) => if szOk ks.length then some (m.set j (.dnn (putN ks ws k y x).1 (putN ks ws k y x).2)) else none
    | _ => none
  | _, _ => none
theorem nks_len : ∀ {ks : List PV} {ns : List NestedKey}, nksOf ks = some ns → ks.length = ns.length
  | [], ns, h => by unfold nksOf at h; cases h; rfl
  | p :: ks, ns, h => by
    unfold nksOf at h
    split at h
    · rename_i k1 ks1 h1 h2
      cases h
      rw [List.length_cons, List.length_cons, nks_len h2]
    · cases h
theorem wrN_ok (hp : PW2 X T) {x o y : PV} {v u w : V} (rm : RM T av r H m) (rx : RV T av r H x v) (ro : RV T av r H o u) (ry : RV T av r H y w) (h : wrN x o y m = some m') :
    ∃ p q xs k, u = .ref p ∧ w = .ref q ∧ NGet X H p xs k q ∧ xs.length < sizeLine ∧ ∀ z, RelV v z → Grow r H r (upd H p (.ext (NDict X.prog X.w p (storedH xs k q z)))) ∧ RM T av r (upd H p (.ext (NDict X.prog X.w p (storedH xs k q z)))) m' := by
  unfold wrN at h
  split at h
  · rename_i j k hk
    split at h
    · rename_i ks ws hx
      split at h
      · rename_i hc
        cases h
        unfold RV at ro
        obtain ⟨p, h1, rfl⟩ := ro
        obtain ⟨xs, vs, d, h2, h3, h4, h5, h6⟩ := rm.ob j _ p hx h1
        obtain ⟨q, rfl, k1, k2, k3⟩ := nkT_ok hk ry
        have hpr : p ∈ r := List.mem_of_getElem? h1
        have d' := d
        rw [hp.1, hp.2.1] at d'
        refine ⟨p, q, xs, k, rfl, rfl, ⟨d', hp.2.2 ▸ nks_of h2 h3 h6, hp.2.2 ▸ k1, k2⟩, ?_, fun z hz => ⟨grow_write hpr, ?_⟩⟩
        · have := szOk_lt hc
          rw [nks_len h2, List.length_map] at this
          exact this
        · obtain ⟨q1, q2, ⟨vs', q3, q4⟩, q5⟩ := putN_ok (u := z) rx hz k3 ry k2 h2 h3 h4 h5 h6
          exact rm.write h1 (by rw [d]; exact fun _ _ => nd_code) ⟨_, vs', by rw [hp.1, hp.2.1]; exact upd_same, q1, q2.out (out_mem hpr), q3.out (out_mem hpr), q4, q5⟩
      · cases h
    · cases h
  · cases h
def mPutN (md mi mv : ME) : MS := fun e m => sB (mv e m) e fun x m1 => sB (md e m1) e fun o m2 => sB (mi e m2) e fun y m3 => match wrN x o y m3 with
  | some m4 => .nx e m4
  | none => .bad
theorem ss_putN (hp : PW2 X T) {pos' : Pos} {mv : ME} (hu : X.A.units + 64 < cLine) (ho : SE X T W a ma) (hi : SE X T W b mb) (hv : SE X T W c mv) (hs : swapsWith c (some (.Subscript a b pos')) pos.line X.env = pure false := by rfl) : SS X T W (.Assign [.Subscript a b pos'] c pos) (mPutN ma mb mv) :=
  ⟨PS.imp (ps_nput hu ho.pe hi.pe hv.pe hs) fun D σ H ⟨av, r, e, m, re, rm, h⟩ => ⟨av, r, e, m, re, rm, okR_imp (okS_sB re h) fun x m1 h r1 H1 v g1 rm1 rx =>
    ⟨av, r1, e, m1, re.grow g1, rm1, okR_imp (okS_sB (re.grow g1) (h.grow g1)) fun o m2 h r2 H2 u g2 rm2 ro =>
      ⟨av, r2, e, m2, (re.grow g1).grow g2, rm2, okR_imp (okS_sB ((re.grow g1).grow g2) (h.grow g2)) fun y m3 h r3 H3 w g3 rm3 ry => by
        split at h
        · rename_i m4 hw
          obtain ⟨p, q, xs, k, rfl, rfl, hd, hz, f⟩ := wrN_ok hp rm3 (rx.grow (g2.trans g3)) (ro.grow g3) ry hw
          refine ⟨p, q, xs, k, rfl, rfl, hd, hz, fun z rz => ?_⟩
          obtain ⟨g4, rm4⟩ := f z rz
          exact h r3 _ σ (g3.trans g4) rm4 ((((re.grow g1).grow g2).grow g3).grow g4)
        · exact h.elim⟩⟩⟩⟩
end M

/-! a tuple times a greater number -/
namespace M
open PySem PySem.Spec PyProof.Rows L2
variable {X : Cx} {T : Tx} {W : WX} {av : Av} {r : List Addr} {H : Hp} {m : Mem}
def rRepW (K : PySem.W.Frag) : R2 := fun x y H Q => ∃ l k xs, x = .ref l ∧ y = .int k ∧ SqT K H l xs ∧ 0 < xs.length ∧ 2 ≤ k ∧ k.toNat * xs.length ≤ 1000000 ∧ ∀ p, H p = none → Q (.ref p) (upd H p (.tup (List.replicate k.toNat xs).flatten))
theorem op_repW : OpR X (binaryOp .Mult) (rRepW X.K) := fun pins s σ H x y v u Q I rx ry ⟨l, k, xs, ex, ey, hT, pos, two, small, q⟩ => by
  subst ex ey
  cases rx
  have ⟨t, eu⟩ := ry
  subst eu
  have ⟨its, rel, ⟨⟨cls, dd, data, sl⟩, ho, hc, n, hd⟩, _⟩ := I.tuple hT
  dsimp only at hc hd
  subst hc
  subst hd
  have len : its.length = xs.length := rel.length.symm
  have flat : (List.replicate k.toNat its).flatten.length ≤ sizeLine := by
    rw [lm_len_rep_flat, len, sizeLine_eq]; omega
  have flat2 : (List.replicate k.toNat xs).flatten.length ≤ sizeLine := by
    rw [lm_len_rep_flat, sizeLine_eq]; omega
  have kk : k = (k.toNat : Int) := (Int.toNat_of_nonneg (by omega)).symm
  have prod : ((its.toArray.size : Nat) : Int) * k ≤ 1000000 := by
    rw [List.size_toArray, len, kk, ← Int.natCast_mul, Nat.mul_comm]; omega
  have kle : k ≤ 1000000 := by
    have : k.toNat * 1 ≤ k.toNat * xs.length := Nat.mul_le_mul_left _ pos
    omega
  have em : its.toArray.isEmpty = false := by
    cases its with
    | nil => rw [← len] at pos; exact absurd pos (Nat.lt_irrefl 0)
    | cons a b => rfl
  have e1 : (decide (k < -(2 ^ 63)) || decide (k ≥ 2 ^ 63)) = false := by
    simp only [Bool.or_eq_false_iff, decide_eq_false_iff_not]; omega
  have e2 : (its.toArray.isEmpty || k == 1) = false := by
    rw [em]; simp only [Bool.false_or, beq_eq_false_iff_ne]; omega
  have e3 : (decide (k ≤ 0) || its.toArray.isEmpty) = false := by
    rw [em]; simp only [Bool.or_false, decide_eq_false_iff_not]; omega
  have e4 : Builtin.Tuple.tupleTooMany (((its.toArray.size : Nat) : Int) * k) = false := by
    simp only [Builtin.Tuple.tupleTooMany, sizeLine_eq, decide_eq_false_iff_not]; omega
  have fold := size_rep its k.toNat
  have mul := tuple_mulW l its.toArray n dd sl k t e1 e2 e3 (by omega) e4 (by rw [fold, List.size_toArray]; exact flat)
  refine wpAny_binaryOp_repeat_ref (T := "tuple") (U := "int") (by decide) ⟨_, ho, rfl⟩ (fun s' => typeIs_int s' k t) noFill_tuple_mul F.fills_int_mul F.slot_int_rmul repeat_tuple F.slot_int_index.lookup ?_
  refine call_meets F.slot_int_rmul (typeIs_int s k t) F.entry_int_rmul (F.args_int_rmul_2 _ _) (int_rmul_tuple k t l its.toArray n dd sl) ⟨ho, rfl, ⟨_, ho, rfl⟩, ?mul⟩
  refine call_meets F.slot_tuple_mul ⟨_, ho, rfl⟩ F.entry_tuple_mul (F.args_tuple_mul_2 _ _) mul ⟨ho, ?_⟩
  rw [fold]
  exact ⟨.ref s.heap.objs.size, _, I.laid (t' := s.toks) (o := .tup (List.replicate k.toNat xs).flatten) (fun b ob z => Heap.get?_push_of_some _ z) (Nat.le_refl _) ⟨flat2, _, rel.rep k.toNat, IsTup.new _ _⟩, rfl, q _ (I.hok.fresh (Nat.le_refl _))⟩
def fRepW : PV → PV → Mem → Option PV := fun x y _ => match x, y with
  | .tup xs, .int k => if !xs.isEmpty && (decide (2 ≤ k) && Nat.ble (k.toNat * xs.length) 1000000) then some (.tup (List.replicate k.toNat xs).flatten) else none
  | _, _ => none
theorem om_repW (hK : X.K = T.K) : OpM X T (binaryOp .Mult) fRepW := by
  refine ⟨_, op_repW, fun {av r H m x y z v w Q} rm rv rw e k => ?_⟩
  unfold fRepW at e
  split at e
  · rename_i xs n
    split at e
    · rename_i hc
      cases e
      rw [Bool.and_eq_true, Bool.and_eq_true, decide_eq_true_eq] at hc
      obtain ⟨h1, h2, h3⟩ := hc
      obtain ⟨p, vs, rfl, hp, hv⟩ := tup_ok hK rv
      have pos : 0 < vs.length := by
        cases xs with
        | nil => cases h1
        | cons a b => rw [hv.length]; exact Nat.succ_pos _
      exact ⟨p, n, vs, rfl, rw.int', hp, pos, h2, by rw [hv.length]; exact Nat.le_of_ble_eq_true h3, fun q hq => ke_newT rm hq (RVs.rep hv _) k⟩
    · cases e
  · cases e
end M

/-! len of a text, of a dict; a text's sign -/
namespace M
open PySem PySem.Spec PyProof.Rows L2
variable {X : Cx} {T : Tx} {W : WX} {av : Av} {r : List Addr} {H : Hp} {m : Mem}
def cLenS : List PV → Mem → Option PV
  | [.str z], _ => if Nat.ble z.length 1000000 then some (.int z.length) else none
  | _, _ => none
theorem cm_lenS : ClM X T (.builtin "len") cLenS := by
  refine ⟨_, call_len_str, fun {av r H m xs z vs Q} rm rv e k => ?_⟩
  unfold cLenS at e
  split at e
  · split at e
    · rename_i hz
      cases e
      obtain ⟨v, rfl, h⟩ := rvs1 rv
      exact ⟨_, by rw [h.str'], Nat.le_trans (Nat.le_of_ble_eq_true hz) (by rw [sizeLine_eq]; decide), k r H _ .refl rm rv_int⟩
    · cases e
  · cases e
theorem call_lenDK : CallR X (.builtin "len") (fun xs H Q => ∃ p kvs, xs = [.ref p] ∧ Rd H p (.dK kvs) ∧ Q (.int kvs.length) H) := by
  intro pins s σ H xs us Q I rv h
  obtain ⟨p, kvs, rfl, hd, q⟩ := h
  obtain ⟨u, rfl, rx⟩ := vals1 rv
  obtain rfl : u = Value.ref p := rx
  exact d_len I hd fun t s' I' => ⟨.int kvs.length, H, I', ⟨t, rfl⟩, q⟩
def cLenD : List PV → Mem → Option PV
  | [x], m => match dctOf x m with
    | some (ks, _) => if flatKs ks then some (.int ks.length) else none
    | none => none
  | _, _ => none
theorem cm_lenD : ClM X T (.builtin "len") cLenD := by
  refine ⟨_, call_lenDK, fun {av r H m xs z vs Q} rm rv e k => ?_⟩
  unfold cLenD at e
  split at e
  · split at e
    · rename_i ks ws hd
      split at e
      · rename_i hk
        cases e
        obtain ⟨v, rfl, h⟩ := rvs1 rv
        obtain ⟨a, vs, rfl, d, _⟩ := dctOf_ok rm h hd
        obtain ⟨kvs, h1, h2, _⟩ := dk_flat d hk
        refine ⟨a, kvs, rfl, h1, ?_⟩
        have q := k r H (.int (kvs.length : Nat)) .refl rm (by rw [h2]; show RV T av r H (.int ((ksOf kvs).length : Nat)) _; rw [show (ksOf kvs).length = kvs.length from List.length_map _]; exact rv_int)
        exact q
      · cases e
    · cases e
  · cases e
def fIxS : PV → PV → Mem → Option PV := fun x y _ => match x, y with
  | .str z, .int i => if Nat.ble z.length 1000000 then (match atI z.cps.toList i with
    | some c => some (.str ⟨#[c]⟩)
    | none => none) else none
  | _, _ => none
theorem im_str : IxM X T fIxS := by
  refine ⟨_, ix_str, fun {av r H m x y z v w Q} rm rv rw0 e k => ?_⟩
  unfold fIxS at e
  split at e
  · rename_i s i
    split at e
    · rename_i hz
      split at e
      · rename_i c hc
        cases e
        exact ⟨s, i, c, rv.str', rw0.int', Nat.le_trans (Nat.le_of_ble_eq_true hz) (by rw [sizeLine_eq]; decide), hc, k r H _ .refl rm (by unfold RV; rfl)⟩
      · cases e
    · cases e
  · cases e
end M

/-! zip of two, each a list or a tuple, or a list of the memory as it stands at each turn -/
namespace M
open PySem PySem.Spec PyProof.Rows L2
variable {X : Cx} {T : Tx} {W : WX} {a b : Expr} {pos : Pos}
variable {av av' : Av} {r r' r2 : List Addr} {H H' H2 : Hp} {m m' : Mem}
def sqM (x : PV) (m : Mem) : Option (Bool × List PV) := match x with
  | .ref j => match m[j]? with
    | some (.lst ys) => some (false, ys)
    | _ => none
  | .tup xs => some (true, xs)
  | .lst xs => some (false, xs)
  | .kst xs => some (false, xs)
  | _ => none
theorem sqM_ok (hK : X.K = T.K) {x : PV} {t : Bool} {xs : List PV} {v : V} (rm : RM T av r H m) (h : sqM x m = some (t, xs)) (rv : RV T av r H x v) : ∃ a vs, v = .ref a ∧ SqB X.K H t a vs ∧ RVs T av r H xs vs := by
  unfold sqM at h
  split at h
  · split at h
    · rename_i ys hj
      cases h
      unfold RV at rv
      obtain ⟨a, h1, rfl⟩ := rv
      obtain ⟨vs, ha, hv⟩ := rm.ob _ _ a hj h1
      exact ⟨a, vs, rfl, .inl (.inl ha), hv⟩
    · cases h
  · cases h; exact tup_ok hK rv
  · cases h
    unfold RV at rv
    obtain ⟨a, vs, rfl, _, hl, hv⟩ := rv
    exact ⟨a, vs, rfl, .inl hl, hv⟩
  · cases h; exact kst_ok hK rv
  · cases h
theorem sqM_same {x : PV} {t t' : Bool} {xs ys : List PV} (h : sqM x m = some (t, xs)) (h' : sqM x m' = some (t', ys)) : t' = t := by
  cases x <;> simp only [sqM] at h h' <;> first | (cases h; cases h'; rfl) | cases h | skip
  split at h <;> first | cases h | skip
  split at h' <;> first | cases h' | skip
  rfl
def zipM (x y : PV) : MI := fun m i => match sqM x m, sqM y m with
  | some (_, xs), some (_, ys) => some (match xs[i]?, ys[i]? with
    | some p, some q => some (.tup [p, q])
    | _, _ => none)
  | _, _ => none
theorem iok_zipM (hK : X.K = T.K) {x y : PV} {t u : Bool} {xs ys : List PV} {v w : V} (rm0 : RM T av r H m) (hx : sqM x m = some (t, xs)) (hy : sqM y m = some (u, ys)) (rv : RV T av r H x v) (rw0 : RV T av r H y w) :
    ∃ a b vs ws, v = .ref a ∧ w = .ref b ∧ SqB X.K H t a vs ∧ SqB X.K H u b ws ∧ IOk T av r H (zipM x y) (Itzz X.K t u a b) := by
  obtain ⟨a, vs, rfl, ha, hv⟩ := sqM_ok hK rm0 hx rv
  obtain ⟨b, ws, rfl, hb, hw⟩ := sqM_ok hK rm0 hy rw0
  refine ⟨a, b, vs, ws, rfl, rfl, ha, hb, fun av' r' H' m' i hwd g rm => ?_⟩
  show match zipM x y m' i with
    | none => True
    | some none => _
    | some (some x) => _
  unfold zipM
  cases e1 : sqM x m' with
  | none => trivial
  | some p1 =>
    cases e2 : sqM y m' with
    | none => trivial
    | some p2 =>
      obtain ⟨t', xs'⟩ := p1
      obtain ⟨u', ys'⟩ := p2
      obtain rfl := sqM_same hx e1
      obtain rfl := sqM_same hy e2
      obtain ⟨a', vs', e, ha', hv'⟩ := sqM_ok hK rm e1 ((rv.widen hwd).growA g)
      cases e
      obtain ⟨b', ws', e, hb', hw'⟩ := sqM_ok hK rm e2 ((rw0.widen hwd).growA g)
      cases e
      dsimp only
      cases q : xs'[i]? with
      | none => exact ⟨vs', ws', ha', hb', .inl (by rw [hv'.length]; exact List.getElem?_eq_none_iff.mp q)⟩
      | some x1 =>
        cases q2 : ys'[i]? with
        | none => exact ⟨vs', ws', ha', hb', .inr (by rw [hw'.length]; exact List.getElem?_eq_none_iff.mp q2)⟩
        | some y1 =>
          obtain ⟨v1, hv1, rv1⟩ := hv'.get q
          obtain ⟨w1, hw1, rw1⟩ := hw'.get q2
          refine ⟨⟨vs', ws', v1, w1, ha', hb', hv1, hw1⟩, fun v H2 z => ?_⟩
          obtain ⟨N, z1, z2, rfl, hN, rfl, f1, f2⟩ := z
          have e1 : z1 = v1 := Option.some.inj ((f1 vs' ha').symm.trans hv1)
          have e2 : z2 = w1 := Option.some.inj ((f2 ws' hb').symm.trans hw1)
          subst e1 e2
          refine ⟨r', grow_upd hN, (rm.pass hN), rv_newT rm hN ?_⟩
          unfold RVs
          exact ⟨_, _, rfl, rv1, by unfold RVs; exact ⟨_, [], rfl, rw1, by unfold RVs; rfl⟩⟩
def mIZM (mr : MA) : Env → Mem → Res MI := fun e m => (mr e m).bind fun vs m1 => match vs with
  | [x, y] => match sqM x m1, sqM y m1 with
    | some _, some _ => .ok (zipM x y) m1
    | _, _ => .bad
  | _ => .bad
theorem si_zipM (hK : X.K = T.K) {mr : MA} {elts : List Expr} {kk : Nat} {p tpos : Pos} (hg : Gl X "zip") (hm : X.mg "zip" = none) (ha : SA X T W [a, b] mr)
    (one : starEach [a, b] X.env = (false, eval a X.env) :: starEach [b] X.env := by rfl) (two : (backTo pos (starEach [b] X.env)).any (·.1) = false := by rfl) : SI X T W (.Tuple elts kk tpos) (.Call (.Name "zip" p) [a, b] [] pos) (mIZM mr) :=
  ⟨PI.imp (pi_zz hg hm ha.pa one two) fun σ H R ⟨av, r, e, m, re, rm, h⟩ => ⟨av, r, e, m, re, rm, okR_imp (okR_bind h) fun vs m1 h r1 H1 ws g1 rm1 rv => by
    split at h
    · split at h
      · rename_i x y _ _ p1 p2 hx hy
        obtain ⟨t, xs⟩ := p1
        obtain ⟨u, ys⟩ := p2
        obtain ⟨v, w, rfl, hv, hw⟩ := rvs2 rv
        obtain ⟨a, b, us, zs, rfl, rfl, h1, h2, iok⟩ := iok_zipM (X := X) hK rm1 hx hy hv hw
        exact ⟨t, u, a, b, us, zs, rfl, h1, h2, h r1 H1 _ g1 rm1 iok⟩
      · exact h.elim
    · exact h.elim⟩⟩
end M

/-! what was made behind an empty memory is let go -/
namespace M
open PySem PySem.Spec PyProof.Rows L2
variable {X : Cx} {T : Tx} {W : WX} {a : Expr} {ma : ME}
variable {av : Av} {r r' : List Addr} {H H' : Hp} {m m' : Mem}
def mTr0 (ma : ME) : ME := fun e m => match ma e m with
  | .ok v m' => if m.isEmpty && noRef v then .ok v [] else .ok v m'
  | .exc c ws m' => .exc c ws m'
  | .bad => .bad
theorem RM.letgo (h : RM T av r' H' m') : RM T av [] H' [] :=
  ⟨rfl, .nil, fun i o a h1 => by simp at h1, h.tb, fun a ha => h.th a (.inl (ha.elim id fun z => (List.not_mem_nil z).elim)), h.nt⟩
theorem Grow.letgo (g : Grow [] H r' H') : Grow [] H [] H' := ⟨⟨[], rfl, by simp⟩, g.keep, g.there⟩
theorem se_tr0 (ha : SE X T W a ma) : SE X T W a (mTr0 ma) :=
  ⟨PE.imp ha.pe fun σ H Q ⟨av, r, e, m, re, rm, h⟩ => ⟨av, r, e, m, re, rm, by
    unfold mTr0 at h
    split at h
    · rename_i v m' e1
      rw [e1]
      split at h
      · rename_i hc
        rw [Bool.and_eq_true] at hc
        have em : m = [] := List.isEmpty_iff.mp hc.1
        subst em
        have er : r = [] := List.eq_nil_of_length_eq_zero rm.len
        subst er
        exact fun r' H' w g rm' rv => h [] H' w g.letgo rm'.letgo (RV.move (fun b o _ => ⟨o.1, List.not_mem_nil⟩) (fun _ _ z _ => z) v hc.2 rv)
      · exact h
    · rename_i c ws m' e1
      rw [e1]; exact h
    · exact h.elim⟩⟩
end M

/-! divmod, gcd, del d[k] -/
namespace M
open PySem PySem.Spec PyProof.Rows L2
variable {X : Cx} {T : Tx} {W : WX} {a b c : Expr} {ma mb mc : ME} {pos tpos : Pos}
variable {av av' : Av} {r r' r2 : List Addr} {H H' H2 : Hp} {m m' : Mem}
def cDivmod : List PV → Mem → Option PV
  | [.int i, .int j], _ => if decide (0 < j) && !(Builtin.divisionGoesByPylong i j) then some (.tup [.int (i / j), .int (i % j)]) else none
  | _, _ => none
theorem cm_divmod : ClM X T (.builtin "divmod") cDivmod := by
  refine ⟨_, call_divmodW, fun {av r H m xs z vs Q} rm rv e k => ?_⟩
  unfold cDivmod at e
  split at e
  · rename_i i j
    split at e
    · rename_i hc
      cases e
      rw [Bool.and_eq_true, decide_eq_true_eq, Bool.not_eq_true'] at hc
      obtain ⟨v, w, rfl, hv, hw⟩ := rvs2 rv
      refine ⟨i, j, by rw [hv.int', hw.int'], ⟨hc.1, hc.2⟩, fun p hp => ke_newT rm hp ?_ k⟩
      unfold RVs
      exact ⟨_, _, rfl, rv_int, by unfold RVs; exact ⟨_, [], rfl, rv_int, by unfold RVs; rfl⟩⟩
    · cases e
  · cases e
def cGcd : List PV → Mem → Option PV
  | [.int i, .int j], _ => some (.int ((Nat.gcd i.natAbs j.natAbs : Nat) : Int))
  | _, _ => none
theorem cm_gcd : ClM X T (.builtin "math.gcd") cGcd := by
  refine ⟨_, cr_gcd, fun {av r H m xs z vs Q} rm rv e k => ?_⟩
  unfold cGcd at e
  split at e
  · rename_i i j
    cases e
    obtain ⟨v, w, rfl, hv, hw⟩ := rvs2 rv
    exact ⟨i, j, by rw [hv.int', hw.int'], k r H _ .refl rm rv_int⟩
  · cases e
theorem se_callBfun {x : Str} {p : Pos} {es : List Expr} {mr : MA} {id : String} {f : List PV → Mem → Option PV} (hc : ClM X T (.builtin id) f) (hg : Gl X x) (hm : X.mg x = some (.builtin id)) (ha : SA X T W (a :: es) mr) (hdb : (x == ("__debug__" : Str)) = false := by decide)
    (he : starEach (a :: es) X.env = (false, eval a X.env) :: starEach es X.env := by rfl) (hpl : (backTo pos (starEach es X.env)).any (·.1) = false := by rfl) : SE X T W (.Call (.Name x p) (a :: es) [] pos) (mCl f mr) := by
  obtain ⟨rd, h1, h2⟩ := hc
  exact ⟨PE.imp (pe_callBfun h1 hg hm ha.pa hdb he hpl) fun σ H Q ⟨av, r, e, m, re, rm, h⟩ =>
    ⟨av, r, e, m, re, rm, okR_imp (okR_bind h) fun xs m1 h r1 H1 vs g1 rm1 rvs => by
      obtain ⟨z, hz, k⟩ := okR_oP h
      exact h2 rm1 rvs hz (k.grow g1)⟩⟩
/-! ### del d[k] -/
def dropP (k : Key) : List PV → List PV → List PV × List PV
  | p :: ks, w :: ws => if eqKey p k then dropP k ks ws else (p :: (dropP k ks ws).1, w :: (dropP k ks ws).2)
  | _, _ => ([], [])
theorem dropP_ok {k : Key} : ∀ {kvs : List (Key × V)} {ws : List PV}, RVs T av r H ws (kvs.map (·.2)) → (dropP k (ksOf kvs) ws).1 = ksOf (dropK kvs k) ∧ RVs T av r H (dropP k (ksOf kvs) ws).2 ((dropK kvs k).map (·.2))
  | [], ws, h => by
    have e : ws = [] := by
      cases ws with
      | nil => rfl
      | cons _ _ => unfold RVs at h; obtain ⟨_, _, e, _⟩ := h; cases e
    subst e
    exact ⟨rfl, h⟩
  | kv :: kvs, [], h => by unfold RVs at h; cases h
  | kv :: kvs, w :: ws, h => by
    unfold RVs at h
    obtain ⟨y, ys, e, h1, h2⟩ := h
    cases e
    obtain ⟨i1, i2⟩ := dropP_ok (k := k) h2
    have e : dropP k (ksOf (kv :: kvs)) (w :: ws) = if eqKey (keyP kv.1) k then dropP k (ksOf kvs) ws else (keyP kv.1 :: (dropP k (ksOf kvs) ws).1, w :: (dropP k (ksOf kvs) ws).2) := rfl
    rw [e, eqKey_ok]
    by_cases q : kv.1 = k
    · have d : dropK (kv :: kvs) k = dropK kvs k := by unfold dropK; rw [List.filter_cons_of_neg (by simpa using q)]
      rw [if_pos (decide_eq_true q), d]
      exact ⟨i1, i2⟩
    · have d : dropK (kv :: kvs) k = kv :: dropK kvs k := by unfold dropK; rw [List.filter_cons_of_pos (by simpa using q)]
      rw [if_neg (by simpa using q), d]
      refine ⟨by show _ :: _ = keyP kv.1 :: ksOf (dropK kvs k); rw [i1], ?_⟩
      show RVs T av r H (w :: _) (kv.2 :: _)
      unfold RVs
      exact ⟨_, _, rfl, h1, i2⟩
def wrDel (o y : PV) (m : Mem) : Option Mem := match o, keyOf y with
  | .ref j, some k => match m[j]? with
    | some (.dct ks ws) => if flatKs ks && (getP k ks ws).isSome then some (m.set j (.dct (dropP k ks ws).1 (dropP k ks ws).2)) else none
    | _ => none
  | _, _ => none
theorem wrDel_ok {o y : PV} {u w : V} (rm : RM T av r H m) (ro : RV T av r H o u) (ry : RV T av r H y w) (h : wrDel o y m = some m') :
    ∃ p kvs k, u = .ref p ∧ H p = some (.dK kvs) ∧ w = kV k ∧ (valV kvs k).isSome = true ∧ Grow r H r (upd H p (.dK (dropK kvs k))) ∧ RM T av r (upd H p (.dK (dropK kvs k))) m' := by
  unfold wrDel at h
  split at h
  · rename_i j k hk
    split at h
    · rename_i ks ws hx
      split at h
      · rename_i hc
        cases h
        rw [Bool.and_eq_true] at hc
        unfold RV at ro
        obtain ⟨p, h1, rfl⟩ := ro
        obtain ⟨vs, h2, h3⟩ := rm.ob j _ p hx h1
        have hp : p ∈ r := List.mem_of_getElem? h1
        rcases h2 with ⟨kvs, d, e1, e2⟩ | ⟨kvs, d, e1, e2, ne⟩
        · subst e1 e2
          obtain ⟨q1, q2⟩ := dropP_ok (k := k) h3
          have g := getP_ok (k := k) h3
          refine ⟨p, kvs, k, rfl, d, keyOf_ok hk ry, ?_, grow_write hp, rm.write h1 (by rw [d]; trivial) ⟨_, .inl ⟨_, upd_same, q1, rfl⟩, q2.out (out_mem hp)⟩⟩
          cases hu : getP k (ksOf kvs) ws with
          | none =>
            have hc2 := hc.2
            rw [show (kvs.map fun kv => keyP kv.1) = ksOf kvs from rfl, hu] at hc2
            cases hc2
          | some u =>
            rw [hu] at g
            obtain ⟨z, e, _⟩ := g
            rw [e]; rfl
        · exfalso
          cases kvs with
          | nil => exact ne rfl
          | cons kv kvs =>
            have q := hc.1
            rw [e1] at q
            unfold flatKs at q
            rw [List.map_cons, List.all_cons, Bool.and_eq_true] at q
            have q := q.1
            unfold keyOf at q
            cases q
      · cases h
    · cases h
  · cases h
def mDel (md mi : ME) : MS := fun e m => sB (md e m) e fun o m2 => sB (mi e m2) e fun y m3 => match wrDel o y m3 with
  | some m4 => .nx e m4
  | none => .bad
theorem ss_del (ho : SE X T W a ma) (hi : SE X T W b mb) : SS X T W (.Delete [.Subscript a b tpos] pos) (mDel ma mb) :=
  ⟨PS.imp (ps_ddel ho.pe hi.pe) fun D σ H ⟨av, r, e, m, re, rm, h⟩ => ⟨av, r, e, m, re, rm, okR_imp (okS_sB re h) fun o m2 h r2 H2 u g2 rm2 ro =>
      ⟨av, r2, e, m2, re.grow g2, rm2, okR_imp (okS_sB (re.grow g2) (h.grow g2)) fun y m3 h r3 H3 w g3 rm3 ry => by
        split at h
        · rename_i m4 hw
          obtain ⟨p, kvs, k, rfl, d, rfl, hs, g4, rm4⟩ := wrDel_ok rm3 (ro.grow g3) ry hw
          exact ⟨p, kvs, k, rfl, d, rfl, hs, h r3 _ σ (g3.trans g4) rm4 (((re.grow g2).grow g3).grow g4)⟩
        · exact h.elim⟩⟩⟩
end M

/-! dict(d), list(d) of a dict whose keys are ints or texts -/
namespace M
open PySem PySem.Spec PyProof.Rows L2
variable {X : Cx} {T : Tx} {W : WX} {a b c : Expr} {ma mb mc : ME} {pos : Pos}
variable {av av' : Av} {r r' r2 : List Addr} {H H' H2 : Hp} {m m' : Mem}
theorem RVs.awayB {p : Addr} {o : HO} {xs : List PV} {vs : List V} (hp : H p = none) (h : RVs T av r H xs vs) : RVs T (Avp av p) r (upd H p o) xs vs := h.away hp
def mDictD (mr : MA) : MD := fun e m => (mr e m).bind fun xs m1 => match xs with
  | [x] => match dctOf x m1 with
    | some (ks, ws) => if flatKs ks then .ok (ks, ws) m1 else .bad
    | none => .bad
  | _ => .bad
theorem sd_dictD {x : Str} {p : Pos} {es : List Expr} {mr : MA} (hg : Gl X x) (hm : X.mg x = none) (hv : bootBuiltins x = some (.type "dict")) (ha : SA X T W (a :: es) mr) (hn : x ≠ "__name__" := by decide) (hdb : (x == ("__debug__" : Str)) = false := by decide)
    (he : starEach (a :: es) X.env = (false, eval a X.env) :: starEach es X.env := by rfl) (hpl : (backTo pos (starEach es X.env)).any (·.1) = false := by rfl) : SD X T W (.Call (.Name x p) (a :: es) [] pos) (mDictD mr) :=
  ⟨PE.imp (pe_callTy call_dictD hg hm hv ha.pa hn hdb he hpl) fun σ H Q ⟨av, r, e, m, re, rm, h⟩ =>
    ⟨av, r, e, m, re, rm, okR_imp (okR_bind h) fun xs m1 h r1 H1 vs g1 rm1 rvs => by
      split at h
      · split at h
        · rename_i x ks ws hd
          split at h
          · rename_i hk
            obtain ⟨v, rfl, rv⟩ := rvs1 rvs
            obtain ⟨d, vs, rfl, dk, hw⟩ := dctOf_ok rm1 rv hd
            obtain ⟨kvs, h1, h2, h3⟩ := dk_flat dk hk
            subst h3
            exact ⟨d, kvs, rfl, h1, fun p hp => h r1 _ p kvs (g1.trans (grow_upd hp)) (g1.none (soft hp)) (rm1.fresh hp) upd_same h2.symm (rm1.away hp) (hw.away hp)⟩
          · exact h.elim
        · exact h.elim
      · exact h.elim⟩⟩
def cListD : List PV → Mem → Option (List PV)
  | [x], m => match dctOf x m with
    | some (ks, _) => if flatKs ks then some ks else none
    | none => none
  | _, _ => none
theorem rvs_keys : ∀ kvs : List (Key × V), RVs T av r H (ksOf kvs) (kvs.map fun kv => kV kv.1)
  | [] => by show RVs T av r H [] []; unfold RVs; rfl
  | kv :: kvs => by
    show RVs T av r H (keyP kv.1 :: ksOf kvs) (kV kv.1 :: _)
    unfold RVs
    refine ⟨_, _, rfl, ?_, rvs_keys kvs⟩
    cases kv.1 with
    | inl i => exact rv_int
    | inr s => show RV T av r H (.str s) (.str s); unfold RV; rfl
theorem cf_listD (hc : X.calm = true) : ClF X T (.type "list") cListD := by
  refine ⟨_, call_listD hc, fun {av r H m xs z vs Q} rm rv e k => ?_⟩
  unfold cListD at e
  split at e
  · split at e
    · rename_i x m ks ws hd
      split at e
      · rename_i hk
        cases e
        obtain ⟨v, rfl, h⟩ := rvs1 rv
        obtain ⟨d, vs, rfl, dk, _⟩ := dctOf_ok rm h hd
        obtain ⟨kvs, h1, h2, _⟩ := dk_flat dk hk
        subst h2
        exact ⟨d, kvs, rfl, h1, fun p hp => kf_new rm hp (rvs_keys kvs) k⟩
      · cases e
    · cases e
  · cases e
end M

/-! type(x) == int, type(x) != int -/
namespace M
open PySem PySem.Spec PyProof.Rows L2
section
variable {prog : Program} {w : World} {A : Around} {E : Value → Shared → Prop} {s : Shared} {Q : Value → Shared → Prop} {a b : Value} {k : Bool}
theorem slot_type_ne : Slot "type" (cmpInfo .NotEq).2.1 "object.__ne__" :=
  .of (owner := "object") (n := "__ne__") (by rw [typeLookup_type, builtinLookup_eq_fast]; kernel_rfl) (by decide +kernel) (by decide +kernel) (by decide +kernel)
    (by first | exact .inl (by decide +kernel) | exact .inr (by decide +kernel)) (by rw [isSubtype_type]; kernel_rfl)
theorem objEqT (ha : s.TypeIs a "type") (hp : plainIs a b = true) (hk : (a == b) = k) (h : Q (if k then .bool true else .notImplemented) s) :
    wpAny (model prog w) A (call (.builtin "object.__eq__") [a, b]) Q E s := by
  cases k with
  | true => exact call_gives TypeEq.slot_type_eq ha F.entry_object_eq (F.args_object_eq_2 _ _) (TypeEq.object_eq_same hp hk) h
  | false => exact call_gives TypeEq.slot_type_eq ha F.entry_object_eq (F.args_object_eq_2 _ _) (TypeEq.object_eq_other hp hk) h
theorem beqV_comm (hk : (a == b) = k) : (b == a) = k := by
  cases k with
  | true => rw [beq_iff_eq] at hk ⊢; exact hk.symm
  | false =>
    rw [Bool.eq_false_iff] at hk ⊢
    intro e
    exact hk (by rw [beq_iff_eq] at e ⊢; exact e.symm)
theorem eqT (hu : A.units < cLine) (ha : s.TypeIs a "type") (hb : s.TypeIs b "type") (hp : plainIs a b = true) (hp' : plainIs b a = true) (hk : (a == b) = k) (h : Q (.bool k) s) :
    wpAny (model prog w) A (compareOp .Eq a b) Q E s := by
  show wpAny _ A (richCompare .Eq _ _) Q E s
  cases k with
  | true => exact wpAny_richCompare_same_or ha hb TypeEq.slot_type_eq (objEqT ha hp hk ⟨(by intro e; cases e), h⟩) (.inr hu)
  | false =>
    simp only [richCompare, cmpInfo_Eq, ha.oneThing_none]
    try with_reducible refine wpAny_holding ?_
    refine wpAny_bind (wpAny_cRoomFor_or (.inr hu) ?_)
    refine wpAny_bind (wpAny_typeOf ha (wpAny_bind (wpAny_typeOf hb ?_)))
    simp only [bne_self_eq_false, Bool.false_eq_true, if_false, pure_bind, Bool.not_false, if_true]
    refine wpAny_bind (m := tryCompare a _ b) (wpAny_tryCompare_declines ha TypeEq.slot_type_eq (objEqT ha hp hk ⟨rfl, ?_⟩))
    refine wpAny_bind (m := tryCompare b _ a) (wpAny_tryCompare_declines hb TypeEq.slot_type_eq_refl (objEqT hb hp' (beqV_comm hk) ⟨rfl, ?_⟩))
    refine wpAny_bind (wpAny_rule (wpAny_bind (wpAny_of_eq (by rw [isSame_plain hp, hk]) (wpAny_pure h))))
theorem objNeT (hu : A.units + 1 < cLine) (ha : s.TypeIs a "type") (hp : plainIs a b = true) (hk : (a == b) = k) (h : Q (if k then .bool false else .notImplemented) s) :
    wpAny (model prog w) A (call (.builtin "object.__ne__") [a, b]) Q E s := by
  refine wpAny_call_entry slot_type_ne ha F.cmpEntry_ne ?_ (F.cmpArgs_ne _ _)
  unfold Builtin.«object.__ne__»
  have hc : ∀ Q' : Option Value → Shared → Prop, Q' (some (if k then .bool true else .notImplemented)) s → wpAny (model prog w) A.in1 (callSpecialIfBound? a "__eq__" [b]) Q' E s :=
    fun Q' hq => wpAny_callSpecialIfBound?_slot ha TypeEq.slot_type_eq (objEqT ha hp hk hq)
  cases k with
  | true => repeat (first | with_reducible refine wpAny_cRoomFor (A := A.in1) hu ?_ | with_reducible refine hc _ ?_ | exact ⟨_, rfl, h⟩ | wp_step)
  | false => repeat (first | with_reducible refine wpAny_cRoomFor (A := A.in1) hu ?_ | with_reducible refine hc _ ?_ | exact ⟨_, rfl, h⟩ | wp_step)
theorem neT (hu : A.units + 1 < cLine) (ha : s.TypeIs a "type") (hb : s.TypeIs b "type") (hp : plainIs a b = true) (hp' : plainIs b a = true) (hk : (a == b) = k) (h : Q (.bool !k) s) :
    wpAny (model prog w) A (compareOp .NotEq a b) Q E s := by
  have hu0 : A.units < cLine := Nat.lt_of_succ_lt hu
  show wpAny _ A (richCompare .NotEq _ _) Q E s
  cases k with
  | true => exact wpAny_richCompare_same_or ha hb slot_type_ne (objNeT hu ha hp hk ⟨(by intro e; cases e), h⟩) (.inr hu0)
  | false =>
    simp only [richCompare, cmpInfo_NotEq, ha.oneThing_none]
    try with_reducible refine wpAny_holding ?_
    refine wpAny_bind (wpAny_cRoomFor_or (.inr hu0) ?_)
    refine wpAny_bind (wpAny_typeOf ha (wpAny_bind (wpAny_typeOf hb ?_)))
    simp only [bne_self_eq_false, Bool.false_eq_true, if_false, pure_bind, Bool.not_false, if_true]
    refine wpAny_bind (m := tryCompare a _ b) (wpAny_tryCompare_declines ha slot_type_ne (objNeT hu ha hp hk ⟨rfl, ?_⟩))
    refine wpAny_bind (m := tryCompare b _ a) (wpAny_tryCompare_declines hb slot_type_ne (objNeT hu hb hp' (beqV_comm hk) ⟨rfl, ?_⟩))
    refine wpAny_bind (wpAny_rule (wpAny_bind (wpAny_of_eq (by rw [isSame_plain hp, hk]) (wpAny_pure h))))
end
section
variable {X : Cx} {T : Tx} {W : WX} {a b c : Expr} {ma mb mc : ME} {pos : Pos}
variable {av av' : Av} {r r' r2 : List Addr} {H H' H2 : Hp} {m m' : Mem}
theorem tag_type (hK : X.K = T.K) (rm : RM T av r H m) {x : PV} {v : V} {t : Nat} (h : RV T av r H x v) (e : tagOf x m = some t) :
    (t < 7 ∧ ∀ (pins : List (Addr × Obj)) (σ : L2.St) (s : Shared) (u : Value), Inv X pins σ H s → RelV v u → s.TypeIs u (tagN t)) ∨
      ∃ (c : Nat) (a dx : Addr) (fs : List (Str × V)), t = 10 + c ∧ v = .ref a ∧ H a = some (.ins (T.cA c) dx fs) := by
  have lst_ok : ∀ {a : Addr} {vs : List V}, Rd H a (.lst vs) → ∀ (pins : List (Addr × Obj)) (σ : L2.St) (s : Shared) (u : Value), Inv X pins σ H s → RelV (.ref a) u → s.TypeIs u (tagN 5) := fun {a vs} ha pins σ s u I rx => by
    cases (show u = Value.ref a from rx)
    obtain ⟨its, rv, pl, hz⟩ := I.list (.inl ha)
    exact pl.isList.typeIs
  have dK_ok : ∀ {a : Addr} {kvs : List (Key × V)}, Rd H a (.dK kvs) → ∀ (pins : List (Addr × Obj)) (σ : L2.St) (s : Shared) (u : Value), Inv X pins σ H s → RelV (.ref a) u → s.TypeIs u (tagN 6) := fun {a kvs} ha pins σ s u I rx => by
    cases (show u = Value.ref a from rx)
    rcases ha with ha | ⟨o, ha⟩
    · obtain ⟨_, _, vs, _, o, es, ep, h1, h2, _⟩ := (show ObjOk X.prog X.w H s.heap a (.dK kvs) from I.hok a _ ha)
      exact ⟨o, h1, h2.1⟩
    · obtain ⟨_, _, xs, _, o, es, ep, h1, h2, _⟩ := (show ObjOk X.prog X.w H s.heap a (.frz _ (.dK kvs)) from I.hok a _ ha).2
      exact ⟨o, h1, h2.1⟩
  have dT_ok : ∀ {a : Addr} {kvs : List (List Key × V)}, Rd H a (.dT kvs) → ∀ (pins : List (Addr × Obj)) (σ : L2.St) (s : Shared) (u : Value), Inv X pins σ H s → RelV (.ref a) u → s.TypeIs u (tagN 6) := fun {a kvs} ha pins σ s u I rx => by
    cases (show u = Value.ref a from rx)
    rcases ha with ha | ⟨o, ha⟩
    · obtain ⟨_, _, xs, _, o, es, ep, h1, h2, _⟩ := (show ObjOk X.prog X.w H s.heap a (.dT kvs) from I.hok a _ ha)
      exact ⟨o, h1, h2.1⟩
    · obtain ⟨_, _, xs, _, o, es, ep, h1, h2, _⟩ := (show ObjOk X.prog X.w H s.heap a (.frz _ (.dT kvs)) from I.hok a _ ha).2
      exact ⟨o, h1, h2.1⟩
  cases x with
  | non => cases e; rw [h.non']; exact .inl ⟨by decide, fun _ _ _ u I rx => by cases (show u = Value.none from rx); rfl⟩
  | bl b => cases e; rw [h.bl']; exact .inl ⟨by decide, fun _ _ _ u I rx => by cases (show u = Value.bool b from rx); rfl⟩
  | int i => cases e; rw [h.int']; exact .inl ⟨by decide, fun _ _ _ u I rx => by obtain ⟨t, rfl⟩ := (show ∃ t, u = Value.int i t from rx); rfl⟩
  | str z => cases e; rw [h.str']; exact .inl ⟨by decide, fun _ _ _ u I rx => by obtain ⟨t, rfl⟩ := (show ∃ t, u = Value.str z t from rx); rfl⟩
  | tup xs =>
    cases e
    unfold RV at h
    obtain ⟨a, vs, rfl, h1, _⟩ := h
    refine .inl ⟨by decide, fun pins σ s u I rx => ?_⟩
    cases (show u = Value.ref a from rx)
    rcases h1 with ⟨_, ha⟩ | ⟨_, o, its, n, hk, hcl, _⟩
    · obtain ⟨its, rv, ⟨o, h1, h2, _⟩, hz⟩ := I.tuple (xs := vs) (.inl (.inl ha))
      exact ⟨o, h1, h2⟩
    · exact ⟨o, I.kIn a o (by rw [hK]; exact hk), hcl⟩
  | exn c ws => cases e
  | kst xs => cases e
  | lst xs =>
    cases e
    unfold RV at h
    obtain ⟨a, vs, rfl, _, ha, _⟩ := h
    exact .inl ⟨by decide, lst_ok ha⟩
  | dct ks ws =>
    cases e
    unfold RV at h
    obtain ⟨a, vs, rfl, _, ha, _⟩ := h
    rcases ha with ⟨kvs, ha, _⟩ | ⟨kvs, ha, _⟩
    · exact .inl ⟨by decide, dK_ok ha⟩
    · exact .inl ⟨by decide, dT_ok ha⟩
  | ins c ws =>
    cases e
    unfold RV at h
    obtain ⟨a, dx, fs, rfl, _, ha, _⟩ := h
    exact .inr ⟨c, a, dx, fs, rfl, rfl, ha⟩
  | dtt ks ws =>
    cases e
    unfold RV at h
    obtain ⟨a, kvs, rfl, _, ha, _⟩ := h
    exact .inl ⟨by decide, dT_ok ha⟩
  | glo k => cases e
  | ref i =>
    unfold RV at h
    obtain ⟨a, h1, rfl⟩ := h
    rw [tagOf] at e
    split at e
    · cases e
      rename_i xs hx
      obtain ⟨vs, ha, _⟩ := rm.ob i _ a hx h1
      exact .inl ⟨by decide, lst_ok (.inl ha)⟩
    · cases e
      rename_i xs ys hx
      obtain ⟨vs, ha, _⟩ := rm.ob i _ a hx h1
      rcases ha with ⟨kvs, ha, _⟩ | ⟨kvs, ha, _⟩
      · exact .inl ⟨by decide, dK_ok (.inl ha)⟩
      · exact .inl ⟨by decide, dT_ok (.inl ha)⟩
    · cases e
      rename_i c ws hx
      obtain ⟨dx, fs, ha, _⟩ := rm.ob i _ a hx h1
      exact .inr ⟨c, a, dx, fs, rfl, rfl, ha⟩
    · cases e
    · cases e
    · cases e
theorem tag_nb : ∀ t, t < 7 → (Value.type (tagN t) == Value.type "builtin_function_or_method") = false := fun t ht => by
  rw [ty_beq]
  exact decide_eq_false ((by decide : ∀ t, t < 7 → tagN t ≠ "builtin_function_or_method") t ht)
theorem tag_meta : ∀ t, t < 7 → ∀ s' : Shared, s'.TypeIs (.type (tagN t)) "type"
  | 0, _ => TypeEq.meta_NoneType
  | 1, _ => TypeEq.meta_bool
  | 2, _ => TypeEq.meta_int
  | 3, _ => TypeEq.meta_str
  | 4, _ => TypeEq.meta_tuple
  | 5, _ => TypeEq.meta_list
  | 6, _ => TypeEq.meta_dict
  | n + 7, h => absurd h (by omega)
theorem tag_eq : ∀ t, t < 7 → ∀ g, g < 7 → decide (tagN t = tagN g) = (t == g) := by decide
def rTyM (X : Cx) : List V → Hp → VK → Prop := fun xs H Q => ∃ x, xs = [x] ∧
  ((∃ t, t < 7 ∧ (∀ (pins : List (Addr × Obj)) (σ : L2.St) (s : Shared) (u : Value), Inv X pins σ H s → RelV x u → s.TypeIs u (tagN t)) ∧ Q (.ty (tagN t)) H) ∨
    ∃ a C dx fs, x = .ref a ∧ H a = some (.ins C dx fs) ∧ Q (.ref C) H)
theorem call_tyM : CallR X (.type "type") (rTyM X) := by
  intro pins s σ H xs us Q I r h
  obtain ⟨x, rfl, ⟨t, ht, hty, q⟩ | ⟨a, C, dx, fs, rfl, ha, q⟩⟩ := h
  · obtain ⟨u, rfl, rx⟩ := vals1 r
    exact call_type_of (hty _ _ _ _ I rx) (tag_nb t ht) ⟨.ty (tagN t), H, I, rfl, q⟩
  · exact cr_type pins s σ H _ us Q I r ⟨a, C, dx, fs, rfl, ha, q⟩
/-- a type beside the written one -/
def rTq (X : Cx) (g : Nat) (neg : Bool) : R2 := fun x y H Q => g < 7 ∧ y = .ty (tagN g) ∧
  ((∃ t, t < 7 ∧ x = .ty (tagN t) ∧ Q (.bl ((t == g) != neg)) H) ∨ ∃ C, x = .ref C ∧ PySem.W.typeIn X.K (.ref C) = some (.type "type") ∧ Q (.bl neg) H)
theorem ref_meta {C : Addr} {pins : List (Addr × Obj)} {σ : L2.St} {s : Shared} (I : Inv X pins σ H s) (h : PySem.W.typeIn X.K (.ref C) = some (.type "type")) : s.TypeIs (.ref C) "type" := by
  obtain ⟨o, ho, e⟩ := Option.map_eq_some_iff.mp h
  exact ⟨o, I.kIn _ _ ho, e⟩
theorem op_eqTq {g : Nat} (hu : X.A.units < cLine) : OpR X (compareOp .Eq) (rTq X g false) := by
  intro pins s σ H x y v u Q I rx ry h
  obtain ⟨hg, rfl, ⟨t, ht, rfl, q⟩ | ⟨C, rfl, hC, q⟩⟩ := h
  · cases (show v = Value.type _ from rx)
    cases (show u = Value.type _ from ry)
    exact eqT hu (tag_meta t ht s) (tag_meta g hg s) rfl rfl ((ty_beq _ _).trans (tag_eq t ht g hg)) ⟨.bl (t == g), H, I, rfl, by rw [Bool.bne_false] at q; exact q⟩
  · cases (show v = Value.ref C from rx)
    cases (show u = Value.type _ from ry)
    exact eqT hu (ref_meta I hC) (tag_meta g hg s) rfl rfl (k := false) (by rfl) ⟨.bl false, H, I, rfl, q⟩
theorem op_neTq {g : Nat} (hu : X.A.units + 1 < cLine) : OpR X (compareOp .NotEq) (rTq X g true) := by
  intro pins s σ H x y v u Q I rx ry h
  obtain ⟨hg, rfl, ⟨t, ht, rfl, q⟩ | ⟨C, rfl, hC, q⟩⟩ := h
  · cases (show v = Value.type _ from rx)
    cases (show u = Value.type _ from ry)
    exact neT hu (tag_meta t ht s) (tag_meta g hg s) rfl rfl ((ty_beq _ _).trans (tag_eq t ht g hg)) ⟨.bl (!(t == g)), H, I, rfl, by rw [Bool.bne_true] at q; exact q⟩
  · cases (show v = Value.ref C from rx)
    cases (show u = Value.type _ from ry)
    exact neT hu (ref_meta I hC) (tag_meta g hg s) rfl rfl (k := false) (by rfl) ⟨.bl true, H, I, rfl, q⟩
def cTyq (own : List Nat) (g : Nat) (neg : Bool) : List PV → Mem → Option PV
  | [x], m => match tagOf x m with
    | some t => if t < 7 then some (.bl ((t == g) != neg)) else if own.contains t then some (.bl neg) else none
    | none => none
  | _, _ => none
def TyOwn (T : Tx) (own : List Nat) : Prop := ∀ o, own.contains o = true → PySem.W.typeIn T.K (.ref (T.cA (o - 10))) = some (.type "type")
theorem tyq_rd (hK : X.K = T.K) {own : List Nat} (ho : TyOwn T own) {g : Nat} (hg : g < 7) {neg : Bool} {xs : List PV} {z : PV} {vs : List V} {Q : VK} (rm : RM T av r H m) (rv : RVs T av r H xs vs) (e : cTyq own g neg xs m = some z) (k : KE T av r H Q z m) :
    rTyM X vs H fun x H1 => rTq X g neg x (.ty (tagN g)) H1 Q := by
  unfold cTyq at e
  split at e
  · rename_i x
    split at e
    · rename_i t ht
      obtain ⟨v, rfl, h1⟩ := rvs1 rv
      refine ⟨v, rfl, ?_⟩
      rcases tag_type hK rm h1 ht with ⟨h7, hty⟩ | ⟨c, a, dx, fs, rfl, rfl, ha⟩
      · rw [if_pos h7] at e
        cases e
        exact .inl ⟨t, h7, hty, hg, rfl, .inl ⟨t, h7, rfl, k r H _ .refl rm rv_bl⟩⟩
      · rw [if_neg (by omega)] at e
        split at e
        · rename_i hc
          cases e
          have q := ho _ hc
          rw [Nat.add_sub_cancel_left, ← hK] at q
          exact .inr ⟨a, _, dx, fs, rfl, ha, hg, rfl, .inr ⟨_, rfl, q, k r H _ .refl rm rv_bl⟩⟩
        · cases e
    · cases e
  · cases e
section
variable {x y : Str} {p p2 p3 : Pos} {g : Nat} {own : List Nat}
theorem se_tyEq (hK : X.K = T.K) (hu : X.A.units + 1 < cLine) (ho : TyOwn T own) (hg : Gl X x) (hm : X.mg x = none) (hv : bootBuiltins x = some (.type "type")) (hg2 : Gl X y) (hm2 : X.mg y = none) (hv2 : bootBuiltins y = some (.type (tagN g))) (ha : SE X T W a ma) (h7 : g < 7 := by decide)
    (hn : x ≠ "__name__" := by decide) (hd : (x == ("__debug__" : Str)) = false := by decide) (hn2 : y ≠ "__name__" := by decide) (hd2 : (y == ("__debug__" : Str)) = false := by decide)
    (he : starEach [a] X.env = (false, eval a X.env) :: starEach [] X.env := by rfl) (hpl : (backTo p2 (starEach [] X.env)).any (·.1) = false := by rfl)
    (hb : behindInMarks .Eq (.Name y p3) = false := by exact nomark _) :
    SE X T W (.Compare (.Call (.Name x p) [a] [] p2) [.Eq] [.Name y p3] pos) (mCl (cTyq own g false) (mCons ma mNil)) :=
  ⟨PE.imp (pe_cmpR (op_eqTq (g := g) (Nat.lt_of_succ_lt hu)) (pe_callTy call_tyM hg hm hv (sa_cons ha sa_nil (hs := he)).pa hn hd he hpl) (pe_bltn (v := .ty (tagN g)) hg2 hm2 hv2 rfl hn2 hd2) hb) fun σ H Q ⟨av, r, e, m, re, rm, h⟩ =>
    ⟨av, r, e, m, re, rm, okR_imp (okR_bind h) fun xs m1 h r1 H1 vs g1 rm1 rvs => by
      obtain ⟨z, hz, k⟩ := okR_oP h
      exact tyq_rd hK ho h7 rm1 rvs hz (k.grow g1)⟩⟩
theorem se_tyNe (hK : X.K = T.K) (hu : X.A.units + 1 < cLine) (ho : TyOwn T own) (hg : Gl X x) (hm : X.mg x = none) (hv : bootBuiltins x = some (.type "type")) (hg2 : Gl X y) (hm2 : X.mg y = none) (hv2 : bootBuiltins y = some (.type (tagN g))) (ha : SE X T W a ma) (h7 : g < 7 := by decide)
    (hn : x ≠ "__name__" := by decide) (hd : (x == ("__debug__" : Str)) = false := by decide) (hn2 : y ≠ "__name__" := by decide) (hd2 : (y == ("__debug__" : Str)) = false := by decide)
    (he : starEach [a] X.env = (false, eval a X.env) :: starEach [] X.env := by rfl) (hpl : (backTo p2 (starEach [] X.env)).any (·.1) = false := by rfl)
    (hb : behindInMarks .NotEq (.Name y p3) = false := by exact nomark _) :
    SE X T W (.Compare (.Call (.Name x p) [a] [] p2) [.NotEq] [.Name y p3] pos) (mCl (cTyq own g true) (mCons ma mNil)) :=
  ⟨PE.imp (pe_cmpR (op_neTq (g := g) hu) (pe_callTy call_tyM hg hm hv (sa_cons ha sa_nil (hs := he)).pa hn hd he hpl) (pe_bltn (v := .ty (tagN g)) hg2 hm2 hv2 rfl hn2 hd2) hb) fun σ H Q ⟨av, r, e, m, re, rm, h⟩ =>
    ⟨av, r, e, m, re, rm, okR_imp (okR_bind h) fun xs m1 h r1 H1 vs g1 rm1 rvs => by
      obtain ⟨z, hz, k⟩ := okR_oP h
      exact tyq_rd hK ho h7 rm1 rvs hz (k.grow g1)⟩⟩
theorem st_tyEq (hK : X.K = T.K) (hu : X.A.units + 1 < cLine) (ho : TyOwn T own) (hg : Gl X x) (hm : X.mg x = none) (hv : bootBuiltins x = some (.type "type")) (hg2 : Gl X y) (hm2 : X.mg y = none) (hv2 : bootBuiltins y = some (.type (tagN g))) (ha : SE X T W a ma) (h7 : g < 7 := by decide)
    (hn : x ≠ "__name__" := by decide) (hd : (x == ("__debug__" : Str)) = false := by decide) (hn2 : y ≠ "__name__" := by decide) (hd2 : (y == ("__debug__" : Str)) = false := by decide)
    (he : starEach [a] X.env = (false, eval a X.env) :: starEach [] X.env := by rfl) (hpl : (backTo p2 (starEach [] X.env)).any (·.1) = false := by rfl)
    (hb : behindInMarks .Eq (.Name y p3) = false := by exact nomark _) :
    ST X T W (.Compare (.Call (.Name x p) [a] [] p2) [.Eq] [.Name y p3] pos) (mTb (mCl (cTyq own g false) (mCons ma mNil))) :=
  ⟨PT.imp (pt_cmpR (op_eqTq (g := g) (Nat.lt_of_succ_lt hu)) (pe_callTy call_tyM hg hm hv (sa_cons ha sa_nil (hs := he)).pa hn hd he hpl) (pe_bltn (v := .ty (tagN g)) hg2 hm2 hv2 rfl hn2 hd2) hb) fun σ H Q ⟨av, r, e, m, re, rm, h⟩ =>
    ⟨av, r, e, m, re, rm, okR_imp (okR_bind (okR_bind h)) fun xs m1 h r1 H1 vs g1 rm1 rvs => by
      obtain ⟨z, hz, k⟩ := okR_oP h
      refine tyq_rd (Q := fun x H' => ∃ k, x = V.bl k ∧ Q k H') hK ho h7 rm1 rvs hz fun r3 H3 w3 g3 rm3 rw3 => ?_
      obtain ⟨b, rfl, k⟩ := okR_tb k
      exact ⟨b, rw3.bl', k r3 H3 (g1.trans g3) rm3⟩⟩⟩
theorem st_tyNe (hK : X.K = T.K) (hu : X.A.units + 1 < cLine) (ho : TyOwn T own) (hg : Gl X x) (hm : X.mg x = none) (hv : bootBuiltins x = some (.type "type")) (hg2 : Gl X y) (hm2 : X.mg y = none) (hv2 : bootBuiltins y = some (.type (tagN g))) (ha : SE X T W a ma) (h7 : g < 7 := by decide)
    (hn : x ≠ "__name__" := by decide) (hd : (x == ("__debug__" : Str)) = false := by decide) (hn2 : y ≠ "__name__" := by decide) (hd2 : (y == ("__debug__" : Str)) = false := by decide)
    (he : starEach [a] X.env = (false, eval a X.env) :: starEach [] X.env := by rfl) (hpl : (backTo p2 (starEach [] X.env)).any (·.1) = false := by rfl)
    (hb : behindInMarks .NotEq (.Name y p3) = false := by exact nomark _) :
    ST X T W (.Compare (.Call (.Name x p) [a] [] p2) [.NotEq] [.Name y p3] pos) (mTb (mCl (cTyq own g true) (mCons ma mNil))) :=
  ⟨PT.imp (pt_cmpR (op_neTq (g := g) hu) (pe_callTy call_tyM hg hm hv (sa_cons ha sa_nil (hs := he)).pa hn hd he hpl) (pe_bltn (v := .ty (tagN g)) hg2 hm2 hv2 rfl hn2 hd2) hb) fun σ H Q ⟨av, r, e, m, re, rm, h⟩ =>
    ⟨av, r, e, m, re, rm, okR_imp (okR_bind (okR_bind h)) fun xs m1 h r1 H1 vs g1 rm1 rvs => by
      obtain ⟨z, hz, k⟩ := okR_oP h
      refine tyq_rd (Q := fun x H' => ∃ k, x = V.bl k ∧ Q k H') hK ho h7 rm1 rvs hz fun r3 H3 w3 g3 rm3 rw3 => ?_
      obtain ⟨b, rfl, k⟩ := okR_tb k
      exact ⟨b, rw3.bl', k r3 H3 (g1.trans g3) rm3⟩⟩⟩
end
end
end M
namespace M
open PySem PySem.Spec PyProof.Rows L2
theorem tyOwn_of {T : Tx} {own : List Nat} (h : own.all (fun o => PySem.W.typeIn T.K (.ref (T.cA (o - 10))) == some (.type "type")) = true) : TyOwn T own := fun o ho =>
  beq_iff_eq.mp (List.all_eq_true.mp h o (List.contains_iff_mem.mp ho))
end M

/-! a op b op c op d; D.get(x) of a dict of the module -/
namespace M
open PySem PySem.Spec PyProof.Rows L2
section
variable {X : Cx} {a b c d : Expr} {ta tb tc td : TE} {pos : Pos} {r1 r2 r3 : R2} {o1 o2 o3 : CmpOp}
def tChain3 (r1 r2 r3 : R2) (ta tb tc td : TE) : TE := fun σ H Q => ta σ H fun x H1 => tb σ H1 fun y H2 => r1 x y H2 fun z H3 => ∃ k, z = .bl k ∧
  (if k = true then tc σ H3 fun w H4 => r2 y w H4 fun z' H5 => ∃ k', z' = .bl k' ∧ (if k' = true then td σ H5 fun u H6 => r3 w u H6 Q else Q (.bl false) H5) else Q (.bl false) H3)
theorem pe_chain3 (h1 : OpR X (compareOp o1) r1) (h2 : OpR X (compareOp o2) r2) (h3 : OpR X (compareOp o3) r3) (ha : PE X a ta) (hb : PE X b tb) (hc : PE X c tc) (hd : PE X d td)
    (hm : lastMarks [o1, o2, o3] [b, c, d] = false := by with_unfolding_all rfl) : PE X (.Compare a [o1, o2, o3] [b, c, d] pos) (tChain3 r1 r2 r3 ta tb tc td) := by
  refine ⟨fun pins s σ H Q I h => ?_⟩
  refine Compare_chain (thn (ha.run pins s σ H _ I h) fun v s1 ⟨x, H1, I1, rx, q1⟩ => chain_link (thn (hb.run pins s1 σ H1 _ I1 q1) fun u s2 ⟨y, H2, I2, ry, q2⟩ =>
    thn (h1 pins s2 σ H2 x y v u _ I2 rx ry q2) fun d s3 ⟨z, H3, I3, rz, k, e, q3⟩ => ?_)) hm
  subst e
  cases rz
  refine wpAny_truthy_bool ?_
  cases k with
  | false => exact ite_ff ⟨.bl false, H3, I3, rfl, q3⟩
  | true =>
    refine ite_tt (chain_link (thn (hc.run pins s3 σ H3 _ I3 q3) fun w' s4 ⟨z', H4, I4, rw, q4⟩ => thn (h2 pins s4 σ H4 y z' u w' _ I4 ry rw q4) fun d2 s5 ⟨z2, H5, I5, rz2, k2, e2, q5⟩ => ?_))
    subst e2
    cases rz2
    refine wpAny_truthy_bool ?_
    cases k2 with
    | false => exact ite_ff ⟨.bl false, H5, I5, rfl, q5⟩
    | true => exact ite_tt (chain_last (thn (hd.run pins s5 σ H5 _ I5 q5) fun w2 s6 ⟨z3, H6, I6, r6, q6⟩ => h3 pins s6 σ H6 z' z3 w' w2 Q I6 rw r6 q6))
theorem pt_chain3 (h1 : OpR X (compareOp o1) r1) (h2 : OpR X (compareOp o2) r2) (h3 : OpR X (compareOp o3) r3) (ha : PE X a ta) (hb : PE X b tb) (hc : PE X c tc) (hd : PE X d td)
    (hm : lastMarks [o1, o2, o3] [b, c, d] = false := by with_unfolding_all rfl) : PT X (.Compare a [o1, o2, o3] [b, c, d] pos) (tTest (tChain3 r1 r2 r3 ta tb tc td)) := by
  refine ⟨fun pins s σ H Q I h => ?_⟩
  refine isTrue_chain (thn (ha.run pins s σ H _ I h) fun v s1 ⟨x, H1, I1, rx, q1⟩ => test_link (thn (hb.run pins s1 σ H1 _ I1 q1) fun u s2 ⟨y, H2, I2, ry, q2⟩ =>
    thn (h1 pins s2 σ H2 x y v u _ I2 rx ry q2) fun d s3 ⟨z, H3, I3, rz, k, e, q3⟩ => ?_)) hm
  subst e
  cases rz
  refine wpAny_truthy_bool ?_
  cases k with
  | false =>
    obtain ⟨k', e', q'⟩ := q3
    cases e'
    exact ite_ff ⟨H3, I3, q'⟩
  | true =>
    refine ite_tt (test_link (thn (hc.run pins s3 σ H3 _ I3 q3) fun w' s4 ⟨z', H4, I4, rw, q4⟩ => thn (h2 pins s4 σ H4 y z' u w' _ I4 ry rw q4) fun d2 s5 ⟨z2, H5, I5, rz2, k2, e2, q5⟩ => ?_))
    subst e2
    cases rz2
    refine wpAny_truthy_bool ?_
    cases k2 with
    | false =>
      obtain ⟨k', e', q'⟩ := q5
      cases e'
      exact ite_ff ⟨H5, I5, q'⟩
    | true =>
      refine ite_tt (test_last (thn (hd.run pins s5 σ H5 _ I5 q5) fun w2 s6 ⟨z3, H6, I6, r6, q6⟩ => thn (h3 pins s6 σ H6 z' z3 w' w2 _ I6 rw r6 q6) fun d7 s7 ⟨z7, H7, I7, r7, k7, e7, q7⟩ => ?_))
      subst e7
      cases r7
      exact wpAny_truthy_bool ⟨H7, I7, q7⟩
end
section
variable {X : Cx} {T : Tx} {W : WX} {a b c d : Expr} {ma mb mc md : ME} {pos : Pos}
variable {av av' : Av} {r r' r2 : List Addr} {H H' H2 : Hp} {m m' : Mem}
def mChain3 (f g h : PV → PV → Mem → Option PV) (ma mb mc md : ME) : ME := fun e m => (ma e m).bind fun x m1 => (mb e m1).bind fun y m2 => (oP (f x y m2) m2).bind fun z m3 => match z with
  | .bl true => (mc e m3).bind fun w m4 => (oP (g y w m4) m4).bind fun z' m5 => match z' with
    | .bl true => (md e m5).bind fun u m6 => oP (h w u m6) m6
    | .bl false => .ok (.bl false) m5
    | _ => .bad
  | .bl false => .ok (.bl false) m3
  | _ => .bad
theorem chain3_imp {f g h : PV → PV → Mem → Option PV} {rd rd' rd2 : R2}
    (k1 : ∀ {av : Av} {r : List Addr} {H : Hp} {m : Mem} {x y z : PV} {v w : V} {Q : VK}, RM T av r H m → RV T av r H x v → RV T av r H y w → f x y m = some z → KE T av r H Q z m → rd v w H Q)
    (k2 : ∀ {av : Av} {r : List Addr} {H : Hp} {m : Mem} {x y z : PV} {v w : V} {Q : VK}, RM T av r H m → RV T av r H x v → RV T av r H y w → g x y m = some z → KE T av r H Q z m → rd' v w H Q)
    (k3 : ∀ {av : Av} {r : List Addr} {H : Hp} {m : Mem} {x y z : PV} {v w : V} {Q : VK}, RM T av r H m → RV T av r H x v → RV T av r H y w → h x y m = some z → KE T av r H Q z m → rd2 v w H Q)
    {σ : L2.St} {H : Hp} {Q : VK} (hh : tE T W (mChain3 f g h ma mb mc md) σ H Q) : tChain3 rd rd' rd2 (tE T W ma) (tE T W mb) (tE T W mc) (tE T W md) σ H Q := by
  obtain ⟨av, r, e, m, re, rm, hh⟩ := hh
  refine ⟨av, r, e, m, re, rm, okR_imp (okR_bind hh) fun x m1 hh r1 H1 v g1 rm1 rv => ⟨av, r1, e, m1, re.grow g1, rm1, okR_grow g1 (fun y m2 hh r2 H2 w g2 rm2 rw => ?_) (okR_bind hh)⟩⟩
  obtain ⟨z, hz, k⟩ := okR_oP (okR_bind hh)
  refine k1 rm2 (rv.grow g2) rw hz fun r3 H3 w3 g3 rm3 rw3 => ?_
  have g13 := (g1.trans g2).trans g3
  split at k
  · refine ⟨true, rw3.bl', iteT ⟨av, r3, e, m2, re.grow g13, rm3, okR_grow g13 (fun y' m4 hh r4 H4 w4 g4 rm4 rw4 => ?_) (okR_bind k)⟩⟩
    obtain ⟨z, hz, k⟩ := okR_oP (okR_bind hh)
    refine k2 rm4 (rw.grow (g3.trans g4)) rw4 hz fun r5 H5 w5 g5 rm5 rw5 => ?_
    have g15 := (g13.trans g4).trans g5
    split at k
    · refine ⟨true, rw5.bl', iteT ⟨av, r5, e, m4, re.grow g15, rm5, okR_grow g15 (fun y6 m6 hh r6 H6 w6 g6 rm6 rw6 => ?_) (okR_bind k)⟩⟩
      obtain ⟨z, hz, k⟩ := okR_oP hh
      exact k3 rm6 (rw4.grow (g5.trans g6)) rw6 hz (k.grow (g15.trans g6))
    · exact ⟨false, rw5.bl', iteF (k r5 H5 _ g15 rm5 rv_bl)⟩
    · exact k.elim
  · exact ⟨false, rw3.bl', iteF (k r3 H3 _ g13 rm3 rv_bl)⟩
  · exact k.elim
theorem se_chain3 {o1 o2 o3 : CmpOp} {f g h : PV → PV → Mem → Option PV} (h1 : OpM X T (compareOp o1) f) (h2 : OpM X T (compareOp o2) g) (h3 : OpM X T (compareOp o3) h) (ha : SE X T W a ma) (hb : SE X T W b mb) (hc : SE X T W c mc) (hd : SE X T W d md)
    (hm : lastMarks [o1, o2, o3] [b, c, d] = false := by with_unfolding_all rfl) : SE X T W (.Compare a [o1, o2, o3] [b, c, d] pos) (mChain3 f g h ma mb mc md) := by
  obtain ⟨rd1, q1, k1⟩ := h1
  obtain ⟨rd2, q2, k2⟩ := h2
  obtain ⟨rd3, q3, k3⟩ := h3
  exact ⟨PE.imp (pe_chain3 q1 q2 q3 ha.pe hb.pe hc.pe hd.pe hm) fun σ H Q h => chain3_imp k1 k2 k3 h⟩
theorem st_chain3 {o1 o2 o3 : CmpOp} {f g h : PV → PV → Mem → Option PV} (h1 : OpM X T (compareOp o1) f) (h2 : OpM X T (compareOp o2) g) (h3 : OpM X T (compareOp o3) h) (ha : SE X T W a ma) (hb : SE X T W b mb) (hc : SE X T W c mc) (hd : SE X T W d md)
    (hm : lastMarks [o1, o2, o3] [b, c, d] = false := by with_unfolding_all rfl) : ST X T W (.Compare a [o1, o2, o3] [b, c, d] pos) (mTb (mChain3 f g h ma mb mc md)) := by
  obtain ⟨rd1, q1, k1⟩ := h1
  obtain ⟨rd2, q2, k2⟩ := h2
  obtain ⟨rd3, q3, k3⟩ := h3
  refine ⟨PT.imp (pt_chain3 q1 q2 q3 ha.pe hb.pe hc.pe hd.pe hm) fun σ H Q ⟨av, r, e, m, re, rm, h⟩ => chain3_imp k1 k2 k3 ⟨av, r, e, m, re, rm, okR_imp (okR_bind h) fun x m1 h r1 H1 v g1 rm1 rv => ?_⟩⟩
  obtain ⟨b, rfl, k⟩ := okR_tb h
  exact ⟨b, rv.bl', k r1 H1 g1 rm1⟩
/-! ### D.get(x) -/
def tGetKd (K : PySem.W.Frag) (d : Addr) (to ty : TE) : TE := fun σ H Q => to σ H fun x H1 => x = .ref d ∧ ty σ H1 fun y H2 => ∃ (z : Str) (q : Option Value) (v0 : V), y = .str z ∧ PySem.W.nsIn K d z = some q ∧ RelV v0 (q.getD .none) ∧ Q v0 H2
theorem pe_getKd {o e : Expr} {apos cpos : Pos} {to ty : TE} {d : Addr} {es : Array DictEntry} {n : Nat} (D : KDict X.K X.w d es n) (ho : PE X o to) (he : PE X e ty) (m : M1 X o "get" apos e cpos) : PE X (.Call (.Attribute o "get" apos) [e] [] cpos) (tGetKd X.K d to ty) := by
  refine ⟨fun pins s σ H Q I h => ?_⟩
  refine wpAny_Call_method m.base m.few m.line PySem.F.plainAttrs_dict PySem.F.slot_dict_get PySem.F.type_dict_get (thn (ho.run pins s σ H _ I h) fun u s1 ⟨x, H1, I1, rx, ex, q1⟩ => ?_)
  subst ex
  obtain rfl : u = Value.ref d := rx
  refine ⟨kd_type D I1, fun b q => ?_, ?_⟩
  · cases q
    exact ⟨_, I1.kIn _ _ D.at_, rfl⟩
  rw [m.trees]
  refine Calls.callWith_builtin rfl (Calls.evalArgs_plain (Calls.spliced_cons (thn (he.run pins s1 σ H1 _ I1 q1) fun iv s2 ⟨y, H2, I2, ry, z, q, v0, ey, hn, rv, q2⟩ => Calls.spliced_nil ?_)))
  subst ey
  obtain ⟨t, rfl⟩ := ry
  refine call_meetsIn PySem.F.slot_dict_get (kd_type D I2) PySem.F.entry_dict_get (PySem.F.args_dict_get_2 _ _) (meets_dict_get (strKind X.prog X.w) d (PySem.strKind_is X.prog X.w z t) D.low)
    ⟨_, PySem.W.mapOf_K (prog := X.prog) I2.kIn D.at_ D.lit, ?_⟩
  rw [PySem.W.find_K D.at_ hn]
  exact ⟨v0, H2, I2.tok _, rv, q2⟩
def mGetK (k : Nat) (kvs : List (Str × Int)) (mo ma : ME) : ME := fun e m => (mo e m).bind fun x m1 => match x with
  | .glo j => if j == k then (ma e m1).bind fun y m2 => match y with
    | .str z => .ok (match kvs.lookup z with
      | some i => .int i
      | none => .non) m2
    | _ => .bad else .bad
  | _ => .bad
theorem se_getK {k : Nat} {o : Expr} {mo : ME} {apos cpos : Pos} {d : Addr} {kvs : List (Str × Int)} (hg : T.g k = .ref d) (D : KTab X.K X.w d kvs) (ho : SE X T W o mo) (ha : SE X T W a ma) (m : M1 X o "get" apos a cpos) :
    SE X T W (.Call (.Attribute o "get" apos) [a] [] cpos) (mGetK k kvs mo ma) := by
  obtain ⟨es, n, KD⟩ := D.dct
  refine ⟨PE.imp (pe_getKd KD ho.pe ha.pe m) fun σ H Q ⟨av, r, e, m, re, rm, h0⟩ => ⟨av, r, e, m, re, rm, okR_imp (okR_bind h0) fun x m1 h r1 H1 v g1 rm1 rv => ?_⟩⟩
  clear h0
  split at h
  · rename_i j
    split at h
    · rename_i hj
      have hy := eq_of_beq hj
      subst hy
      unfold RV at rv
      refine ⟨by rw [rv, hg], av, r1, e, m1, re.grow g1, rm1, okR_grow g1 (fun y m2 h r2 H2 w g2 rm2 rw => ?_) (okR_bind h)⟩
      split at h
      · rename_i z
        have row := D.row z
        cases hl : kvs.lookup z with
        | none =>
          rw [hl] at row h
          exact ⟨z, none, .non, rw.str', row, rfl, h r2 H2 _ (g1.trans g2) rm2 (by unfold RV; rfl)⟩
        | some i =>
          rw [hl] at row h
          obtain ⟨u, e1, ru⟩ := row
          exact ⟨z, some u, .int i, rw.str', e1, ru, h r2 H2 _ (g1.trans g2) rm2 rv_int⟩
      · exact h.elim
    · exact h.elim
  · exact h.elim
end
end M

namespace G
open PySem PySem.Spec PyProof.Rows L2 M
def topS (i : Nat) : Stmt := PySem.Challenge.pw_fivealike_k04_errors_of_webs.main.body.getD i (.Pass ⟨0, 0, 0, 0⟩)
def iTab : List (Nat × List Nat) := [(0, [1, 2]), (1, [1]), (2, [4]), (3, [5]), (4, [6]), (5, [3]), (12, [15])]
def iOwn : List Nat := [15]
abbrev isF : Nat → Nat → Option Bool := isTab iOwn iTab
def cNm : Nat → List Str
  | 6 => []
  | 0 => []
  | 1 => []
  | 2 => []
  | 3 => ["given"]
  | 4 => ["most"]
  | 5 => ["colours", "ties", "_near", "degrees"]
  | _ => []
def metL : List Hd := [(0, none, (mRet (mTup (mCons (mC (.str "met")) (mCons (mC (.str "web")) mNil))))),
  (1, none, (mRet (mTup (mCons (mC (.str "met")) (mCons (mC (.str "row")) mNil))))),
  (2, none, (mRet (mTup (mCons (mC (.str "met")) (mCons (mC (.str "operation")) mNil))))),
  (3, some 1, (mRet (mTup (mCons (mC (.str "met")) (mCons (mBin fAdd (mC (.str "number ")) (mCl fReprD (mCons (mExF 3 0 (mVar 1)) mNil))) mNil))))),
  (4, some 1, (mRet (mTup (mCons (mC (.str "met")) (mCons (mBin fAdd (mC (.str "many ")) (mCl fReprD (mCons (mExF 4 0 (mVar 1)) mNil))) mNil)))))]
def metF : MS := (mRet (mTup (mCons (mC (.str "met")) (mCons (mC (.str "fine")) mNil))))
abbrev s_d8 : Stmt := topS 8
theorem sc_d8 : FnScope ["value", "low", "high"] ["value", "low", "high"] (defScope s_d8) := ⟨rfl, rfl, rfl, by decide +kernel, rfl, by decide +kernel, by decide +kernel⟩
/-- is_between -/
def m_d8 : MS := (mRet (mAndV (mCl (cTyq iOwn 2 false) (mCons (mVar 0) mNil)) (mChain fLeI fLeI (mVar 1) (mVar 0) (mVar 2))))
abbrev s_d9 : Stmt := topS 9
theorem sc_d9 : FnScope ["value", "low", "high", "member"] ["value", "low", "high"] (defScope s_d9) := ⟨rfl, rfl, rfl, by decide +kernel, rfl, by decide +kernel, by decide +kernel⟩
/-- are_between -/
def m_d9 : MS := (mSeq (mIfS (mNotT (mTb (mCl (cIsi isF) (mCons (mVar 0) (mCons (mC (.glo 2)) mNil)))))
  (mRet (mC (.bl false)))
  mPass)
  (mSeq (mFor (mPick (mIT (mVar 0)) (mIL (mVar 0))) (gN 3)
  (mIfS (mOrT (mTb (mCl (cTyq iOwn 2 true) (mCons (mVar 3) mNil))) (mNotT (mTb (mChain fLeI fLeI (mVar 1) (mVar 3) (mVar 2)))))
  (mRet (mC (.bl false)))
  mPass))
  (mRet (mC (.bl true)))))
abbrev s_c20m3 : Stmt := inClass (topS 20) 3
theorem sc_c20m3 : FnScope ["self"] ["self"] (defScope s_c20m3) := ⟨rfl, rfl, rfl, by decide +kernel, rfl, by decide +kernel, by decide +kernel⟩
/-- Web.__len__ -/
def m_c20m3 : MS := (mRet (mCl cLen (mCons (mFld 5 0 (mVar 0)) mNil)))
abbrev s_d10 : Stmt := topS 10
theorem sc_d10 : FnScope ["members", "at"] ["members"] (defScope s_d10) := ⟨rfl, rfl, rfl, by decide +kernel, rfl, by decide +kernel, by decide +kernel⟩
/-- is_ascending -/
def m_d10 : MS := (mSeq (mFor (mIR2 (mCons (mC (.int 1)) (mCons (mCl (orC cLen (cLenI 5 (mFn 1 m_c20m3))) (mCons (mVar 0) mNil)) mNil))) (gN 1)
  (mIfS (mNotT (mTb (mBin (orF fLtI fLtT) (mPick (mBin fIx (mVar 0) (mBin fSubI (mVar 1) (mC (.int 1)))) (mGet (mVar 0) (mBin fSubI (mVar 1) (mC (.int 1))))) (mPick (mBin fIx (mVar 0) (mVar 1)) (mGet (mVar 0) (mVar 1))))))
  (mRet (mC (.bl false)))
  mPass))
  (mRet (mC (.bl true))))
abbrev s_d17 : Stmt := topS 17
theorem sc_d17 : FnScope ["value"] ["value"] (defScope s_d17) := ⟨rfl, rfl, rfl, by decide +kernel, rfl, by decide +kernel, by decide +kernel⟩
/-- are_colours -/
def m_d17 : MS := (mRet (mCallP 3 (mFn 4 m_d9) (mCons (mVar 0) (mCons (mC (.int (-1))) (mCons (mC (.int (9))) mNil)))))
abbrev s_d18 : Stmt := topS 18
theorem sc_d18 : FnScope ["value", "many", "tie"] ["value", "many"] (defScope s_d18) := ⟨rfl, rfl, rfl, by decide +kernel, rfl, by decide +kernel, by decide +kernel⟩
/-- are_ties -/
def m_d18 : MS := (mSeq (mIfS (mNotT (mTb (mCl (cIsi isF) (mCons (mVar 0) (mCons (mC (.glo 2)) mNil)))))
  (mRet (mC (.bl false)))
  mPass)
  (mSeq (mFor (mPick (mIT (mVar 0)) (mIL (mVar 0))) (gN 2)
  (mIfS (mOrT (mNotT (mTb (mCallP 3 (mFn 4 m_d9) (mCons (mVar 2) (mCons (mC (.int 0)) (mCons (mBin fSubI (mVar 1) (mC (.int 1))) mNil)))))) (mOrT (mTb (mBin fNeD (mCl (orC cLen (cLenI 5 (mFn 1 m_c20m3))) (mCons (mVar 2) mNil)) (mC (.int 2)))) (mTb (mBin fGeI (mPick (mBin fIx (mVar 2) (mC (.int 0))) (mGet (mVar 2) (mC (.int 0)))) (mPick (mBin fIx (mVar 2) (mC (.int 1))) (mGet (mVar 2) (mC (.int 1))))))))
  (mRet (mC (.bl false)))
  mPass))
  (mRet (mCallP 1 (mFn 2 m_d10) (mCons (mVar 0) mNil)))))
abbrev s_d19 : Stmt := topS 19
theorem sc_d19 : FnScope ["many", "ties", "near", "here", "there", "_", "points"] ["many", "ties"] (defScope s_d19) := ⟨rfl, rfl, rfl, by decide +kernel, rfl, by decide +kernel, by decide +kernel⟩
/-- near_points -/
def m_d19 : MS := (mSeq (mSet 2 (mL (mLc (mIR1 (mCons (mVar 0) mNil)) (gN 5) mYes (mN (mLstF mNil)) [5])))
  (mSeq (mFor (mPick (mIT (mVar 1)) (mIL (mVar 1))) (gTupM 2 (gsCons (gN 3) (gsCons (gN 4) gsNil)))
  (mSeq (mExpr (mMt qAppend isLst (mPick (mBin fIx (mVar 2) (mVar 3)) (mGet (mVar 2) (mVar 3))) (mCons (mVar 4) mNil)))
  (mExpr (mMt qAppend isLst (mPick (mBin fIx (mVar 2) (mVar 4)) (mGet (mVar 2) (mVar 4))) (mCons (mVar 3) mNil)))))
  (mRet (mCl cTuple (mCons (mL (mLc (mPick (mIT (mVar 2)) (mIL (mVar 2))) (gN 6) mYes (mCl cTuple (mCons (mL (mCl (orF2 cSortI cSortDI) (mCons (mVar 6) mNil))) mNil)) [6])) mNil)))))
abbrev s_d21 : Stmt := topS 21
theorem sc_d21 : FnScope ["web"] ["web"] (defScope s_d21) := ⟨rfl, rfl, rfl, by decide +kernel, rfl, by decide +kernel, by decide +kernel⟩
/-- check_web -/
def m_d21 : MS := (mIfS (mNotT (mTb (mCl (cIsi isF) (mCons (mVar 0) (mCons (mC (.glo 12)) mNil)))))
  (mRaise 0)
  mPass)
abbrev s_d22 : Stmt := topS 22
theorem sc_d22 : FnScope ["web", "point"] ["web", "point"] (defScope s_d22) := ⟨rfl, rfl, rfl, by decide +kernel, rfl, by decide +kernel, by decide +kernel⟩
/-- check_point -/
def m_d22 : MS := (mIfS (mNotT (mTb (mCallP 3 (mFn 3 m_d8) (mCons (mVar 1) (mCons (mC (.int 0)) (mCons (mBin fSubI (mCl (orC cLen (cLenI 5 (mFn 1 m_c20m3))) (mCons (mVar 0) mNil)) (mC (.int 1))) mNil))))))
  (mRaise1 3 (mVar 1))
  mPass)
abbrev s_d23 : Stmt := topS 23
theorem sc_d23 : FnScope ["web", "value"] ["web", "value"] (defScope s_d23) := ⟨rfl, rfl, rfl, by decide +kernel, rfl, by decide +kernel, by decide +kernel⟩
/-- is_row_of -/
def m_d23 : MS := (mRet (mAndV (mCallP 3 (mFn 4 m_d9) (mCons (mVar 1) (mCons (mC (.int 0)) (mCons (mBin fSubI (mCl (orC cLen (cLenI 5 (mFn 1 m_c20m3))) (mCons (mVar 0) mNil)) (mC (.int 1))) mNil)))) (mBin fLeI (mCl (orC cLen (cLenI 5 (mFn 1 m_c20m3))) (mCons (mVar 1) mNil)) (mC (.int (4))))))
abbrev s_d24 : Stmt := topS 24
theorem sc_d24 : FnScope ["web", "row"] ["web", "row"] (defScope s_d24) := ⟨rfl, rfl, rfl, by decide +kernel, rfl, by decide +kernel, by decide +kernel⟩
/-- check_row -/
def m_d24 : MS := (mIfS (mNotT (mTb (mCallP 2 (mFn 2 m_d23) (mCons (mVar 0) (mCons (mVar 1) mNil)))))
  (mRaise 1)
  mPass)
abbrev s_d25 : Stmt := topS 25
theorem sc_d25 : FnScope ["web", "value"] ["web", "value"] (defScope s_d25) := ⟨rfl, rfl, rfl, by decide +kernel, rfl, by decide +kernel, by decide +kernel⟩
/-- is_lot -/
def m_d25 : MS := (mRet (mAndV (mCallP 3 (mFn 4 m_d9) (mCons (mVar 1) (mCons (mC (.int 0)) (mCons (mBin fSubI (mCl (orC cLen (cLenI 5 (mFn 1 m_c20m3))) (mCons (mVar 0) mNil)) (mC (.int 1))) mNil)))) (mCallP 1 (mFn 2 m_d10) (mCons (mVar 1) mNil))))
abbrev s_c20m0 : Stmt := inClass (topS 20) 0
theorem sc_c20m0 : FnScope ["self", "colours", "ties", "points"] ["self", "colours", "ties"] (defScope s_c20m0) := ⟨rfl, rfl, rfl, by decide +kernel, rfl, by decide +kernel, by decide +kernel⟩
/-- Web.__init__ -/
def m_c20m0 : MS := (mSeq (mIfS (mOrT (mNotT (mTb (mCallP 1 (mFn 1 m_d17) (mCons (mVar 1) mNil)))) (mTb (mBin fGtI (mCl (orC cLen (cLenI 5 (mFn 1 m_c20m3))) (mCons (mVar 1) mNil)) (mC (.int (40))))))
  (mRaise 0)
  mPass)
  (mSeq (mIfS (mNotT (mTb (mCallP 2 (mFn 3 m_d18) (mCons (mVar 2) (mCons (mCl (orC cLen (cLenI 5 (mFn 1 m_c20m3))) (mCons (mVar 1) mNil)) mNil)))))
  (mRaise 0)
  mPass)
  (mSeq (mSetF 5 0 (mVar 0) (mVar 1))
  (mSeq (mSetF 5 1 (mVar 0) (mVar 2))
  (mSeq (mSetF 5 2 (mVar 0) (mCallP 2 (mFn 7 m_d19) (mCons (mCl (orC cLen (cLenI 5 (mFn 1 m_c20m3))) (mCons (mVar 1) mNil)) (mCons (mVar 2) mNil))))
  (mSetF 5 3 (mVar 0) (mCl cTuple (mCons (mL (mLc (mPick (mIT (mFld 5 2 (mVar 0))) (mIL (mFld 5 2 (mVar 0)))) (gN 3) mYes (mCl (orC cLen (cLenI 5 (mFn 1 m_c20m3))) (mCons (mVar 3) mNil)) [3])) mNil))))))))
abbrev s_d26 : Stmt := topS 26
theorem sc_d26 : FnScope ["web", "points", "named", "ties", "at", "point", "here", "there"] ["web", "points"] (defScope s_d26) := ⟨rfl, rfl, rfl, by decide +kernel, rfl, by decide +kernel, by decide +kernel⟩
/-- part -/
def m_d26 : MS := (mSeq (mExpr (mCallP 1 (mFn 1 m_d21) (mCons (mVar 0) mNil)))
  (mSeq (mIfS (mNotT (mTb (mCallP 2 (mFn 2 m_d25) (mCons (mVar 0) (mCons (mVar 1) mNil)))))
  (mRaise 2)
  mPass)
  (mSeq (mSet 2 (mD (mDc (mPick (mIE (mCons (mVar 1) mNil)) (mIEt (mCons (mVar 1) mNil))) (gTupM 2 (gsCons (gN 4) (gsCons (gN 5) gsNil))) mYes (mVar 5) (mVar 4) [4, 5])))
  (mSeq (mSet 3 (mL (mLc (mPick (mIT (mFld 5 1 (mVar 0))) (mIL (mFld 5 1 (mVar 0)))) (gTupM 2 (gsCons (gN 6) (gsCons (gN 7) gsNil))) (mAndT (mPick (mTb (mIn false (mVar 6) (mVar 2))) (mTb (mBin (fInD false) (mVar 6) (mVar 2)))) (mPick (mTb (mIn false (mVar 7) (mVar 2))) (mTb (mBin (fInD false) (mVar 7) (mVar 2))))) (mTup (mCons (mPick (mBin fIx (mVar 2) (mVar 6)) (mGet (mVar 2) (mVar 6))) (mCons (mPick (mBin fIx (mVar 2) (mVar 7)) (mGet (mVar 2) (mVar 7))) mNil))) [6, 7])))
  (mRet (mMk 5 4 3 (mFn 4 m_c20m0) (mCons (mCl cTuple (mCons (mL (mLc (mPick (mIT (mVar 1)) (mIL (mVar 1))) (gN 5) mYes (mPick (mBin fIx (mFld 5 0 (mVar 0)) (mVar 5)) (mGet (mFld 5 0 (mVar 0)) (mVar 5))) [5])) mNil)) (mCons (mCl cTuple (mCons (mVar 3) mNil)) mNil))))))))
abbrev s_d27 : Stmt := topS 27
theorem sc_d27 : FnScope ["web", "names", "many", "colours", "point", "ties", "here", "there"] ["web", "names"] (defScope s_d27) := ⟨rfl, rfl, rfl, by decide +kernel, rfl, by decide +kernel, by decide +kernel⟩
/-- renamed -/
def m_d27 : MS := (mSeq (mExpr (mCallP 1 (mFn 1 m_d21) (mCons (mVar 0) mNil)))
  (mSeq (mSet 2 (mCl (orC cLen (cLenI 5 (mFn 1 m_c20m3))) (mCons (mVar 0) mNil)))
  (mSeq (mIfS (mOrT (mNotT (mTb (mCallP 3 (mFn 4 m_d9) (mCons (mVar 1) (mCons (mC (.int 0)) (mCons (mBin fSubI (mVar 2) (mC (.int 1))) mNil)))))) (mTb (mBin fNeD (mL (mCl (orF2 cSortI cSortDI) (mCons (mVar 1) mNil))) (mL (mLR1 (mVar 2))))))
  (mRaise 2)
  mPass)
  (mSeq (mSet 3 (mN (mRepF (mLstF (mCons (mC (.int 0)) mNil)) (mVar 2))))
  (mSeq (mFor (mIR1 (mCons (mVar 2) mNil)) (gN 4)
  (mPickS (mAsg (mPick (mBin fIx (mFld 5 0 (mVar 0)) (mVar 4)) (mGet (mFld 5 0 (mVar 0)) (mVar 4))) (gSubL (mVar 3) (mPick (mBin fIx (mVar 1) (mVar 4)) (mGet (mVar 1) (mVar 4))))) (mPut (mVar 3) (mPick (mBin fIx (mVar 1) (mVar 4)) (mGet (mVar 1) (mVar 4))) (mPick (mBin fIx (mFld 5 0 (mVar 0)) (mVar 4)) (mGet (mFld 5 0 (mVar 0)) (mVar 4))))))
  (mSeq (mSet 5 (mL (mLc (mPick (mIT (mFld 5 1 (mVar 0))) (mIL (mFld 5 1 (mVar 0)))) (gTupM 2 (gsCons (gN 6) (gsCons (gN 7) gsNil))) mYes (mTup (mCons (mCl cMin2 (mCons (mPick (mBin fIx (mVar 1) (mVar 6)) (mGet (mVar 1) (mVar 6))) (mCons (mPick (mBin fIx (mVar 1) (mVar 7)) (mGet (mVar 1) (mVar 7))) mNil))) (mCons (mCl cMax2 (mCons (mPick (mBin fIx (mVar 1) (mVar 6)) (mGet (mVar 1) (mVar 6))) (mCons (mPick (mBin fIx (mVar 1) (mVar 7)) (mGet (mVar 1) (mVar 7))) mNil))) mNil))) [6, 7])))
  (mRet (mMk 5 4 3 (mFn 4 m_c20m0) (mCons (mCl cTuple (mCons (mVar 3) mNil)) (mCons (mCl cTuple (mCons (mL (mCl (orF2 cSortI cSortDI) (mCons (mVar 5) mNil))) mNil)) mNil))))))))))
abbrev s_d28 : Stmt := topS 28
theorem sc_d28 : FnScope ["web", "colours"] ["web", "colours"] (defScope s_d28) := ⟨rfl, rfl, rfl, by decide +kernel, rfl, by decide +kernel, by decide +kernel⟩
/-- recoloured -/
def m_d28 : MS := (mSeq (mExpr (mCallP 1 (mFn 1 m_d21) (mCons (mVar 0) mNil)))
  (mSeq (mIfS (mOrT (mNotT (mTb (mCallP 1 (mFn 1 m_d17) (mCons (mVar 1) mNil)))) (mTb (mBin fNeD (mCl (orC cLen (cLenI 5 (mFn 1 m_c20m3))) (mCons (mVar 1) mNil)) (mCl (orC cLen (cLenI 5 (mFn 1 m_c20m3))) (mCons (mVar 0) mNil)))))
  (mRaise 2)
  mPass)
  (mRet (mMk 5 4 3 (mFn 4 m_c20m0) (mCons (mVar 1) (mCons (mFld 5 1 (mVar 0)) mNil))))))
abbrev s_d29 : Stmt := topS 29
theorem sc_d29 : FnScope ["one", "other", "many", "here", "there"] ["one", "other"] (defScope s_d29) := ⟨rfl, rfl, rfl, by decide +kernel, rfl, by decide +kernel, by decide +kernel⟩
/-- ties_beside -/
def m_d29 : MS := (mSeq (mSet 2 (mCl (orC cLen (cLenI 5 (mFn 1 m_c20m3))) (mCons (mVar 0) mNil)))
  (mRet (mBin fAdd (mL (mCl (orF2 cList cListD) (mCons (mFld 5 1 (mVar 0)) mNil))) (mL (mLc (mPick (mIT (mFld 5 1 (mVar 1))) (mIL (mFld 5 1 (mVar 1)))) (gTupM 2 (gsCons (gN 3) (gsCons (gN 4) gsNil))) mYes (mTup (mCons (mBin fAdd (mVar 3) (mVar 2)) (mCons (mBin fAdd (mVar 4) (mVar 2)) mNil))) [3, 4])))))
abbrev s_d30 : Stmt := topS 30
theorem sc_d30 : FnScope ["one", "other"] ["one", "other"] (defScope s_d30) := ⟨rfl, rfl, rfl, by decide +kernel, rfl, by decide +kernel, by decide +kernel⟩
/-- check_both -/
def m_d30 : MS := (mSeq (mExpr (mCallP 1 (mFn 1 m_d21) (mCons (mVar 0) mNil)))
  (mSeq (mExpr (mCallP 1 (mFn 1 m_d21) (mCons (mVar 1) mNil)))
  (mIfS (mTb (mBin fGtI (mBin fAdd (mCl (orC cLen (cLenI 5 (mFn 1 m_c20m3))) (mCons (mVar 0) mNil)) (mCl (orC cLen (cLenI 5 (mFn 1 m_c20m3))) (mCons (mVar 1) mNil))) (mC (.int (40)))))
  (mRaise1 4 (mC (.int (40))))
  mPass)))
abbrev s_d31 : Stmt := topS 31
theorem sc_d31 : FnScope ["one", "other"] ["one", "other"] (defScope s_d31) := ⟨rfl, rfl, rfl, by decide +kernel, rfl, by decide +kernel, by decide +kernel⟩
/-- beside -/
def m_d31 : MS := (mSeq (mExpr (mCallP 2 (mFn 2 m_d30) (mCons (mVar 0) (mCons (mVar 1) mNil))))
  (mRet (mMk 5 4 3 (mFn 4 m_c20m0) (mCons (mBin fAdd (mFld 5 0 (mVar 0)) (mFld 5 0 (mVar 1))) (mCons (mCl cTuple (mCons (mCallP 2 (mFn 5 m_d29) (mCons (mVar 0) (mCons (mVar 1) mNil))) mNil)) mNil)))))
abbrev s_d32 : Stmt := topS 32
theorem sc_d32 : FnScope ["one", "other", "many", "across", "here", "there"] ["one", "other"] (defScope s_d32) := ⟨rfl, rfl, rfl, by decide +kernel, rfl, by decide +kernel, by decide +kernel⟩
/-- joined -/
def m_d32 : MS := (mSeq (mExpr (mCallP 2 (mFn 2 m_d30) (mCons (mVar 0) (mCons (mVar 1) mNil))))
  (mSeq (mSet 2 (mCl (orC cLen (cLenI 5 (mFn 1 m_c20m3))) (mCons (mVar 0) mNil)))
  (mSeq (mSet 3 (mL (mLc2 (mIR1 (mCons (mVar 2) mNil)) (gN 4) mYes (mIR1 (mCons (mCl (orC cLen (cLenI 5 (mFn 1 m_c20m3))) (mCons (mVar 1) mNil)) mNil)) (gN 5) mYes (mTup (mCons (mVar 4) (mCons (mBin fAdd (mVar 2) (mVar 5)) mNil))) [4, 5] [5])))
  (mRet (mMk 5 4 3 (mFn 4 m_c20m0) (mCons (mBin fAdd (mFld 5 0 (mVar 0)) (mFld 5 0 (mVar 1))) (mCons (mCl cTuple (mCons (mL (mCl (orF2 cSortI cSortDI) (mCons (mBin fAdd (mCallP 2 (mFn 5 m_d29) (mCons (mVar 0) (mCons (mVar 1) mNil))) (mVar 3)) mNil))) mNil)) mNil)))))))
abbrev s_c20m1 : Stmt := inClass (topS 20) 1
theorem sc_c20m1 : FnScope ["self", "point"] ["self", "point"] (defScope s_c20m1) := ⟨rfl, rfl, rfl, by decide +kernel, rfl, by decide +kernel, by decide +kernel⟩
/-- Web.near -/
def m_c20m1 : MS := (mSeq (mExpr (mCallP 2 (mFn 2 m_d22) (mCons (mVar 0) (mCons (mVar 1) mNil))))
  (mRet (mPick (mBin fIx (mFld 5 2 (mVar 0)) (mVar 1)) (mGet (mFld 5 2 (mVar 0)) (mVar 1)))))
abbrev s_d33 : Stmt := topS 33
theorem sc_d33 : FnScope ["web", "many", "pairs", "ties", "here", "there"] ["web"] (defScope s_d33) := ⟨rfl, rfl, rfl, by decide +kernel, rfl, by decide +kernel, by decide +kernel⟩
/-- opposite -/
def m_d33 : MS := (mSeq (mExpr (mCallP 1 (mFn 1 m_d21) (mCons (mVar 0) mNil)))
  (mSeq (mSet 1 (mCl (orC cLen (cLenI 5 (mFn 1 m_c20m3))) (mCons (mVar 0) mNil)))
  (mSeq (mSet 2 (mL (mLc2 (mIR1 (mCons (mVar 1) mNil)) (gN 4) mYes (mIR2 (mCons (mBin fAdd (mVar 4) (mC (.int 1))) (mCons (mVar 1) mNil))) (gN 5) mYes (mTup (mCons (mVar 4) (mCons (mVar 5) mNil))) [4, 5] [5])))
  (mSeq (mSet 3 (mL (mLc (mPick (mIT (mVar 2)) (mIL (mVar 2))) (gTupM 2 (gsCons (gN 4) (gsCons (gN 5) gsNil))) (mPick (mTb (mIn true (mVar 5) (mMeth 5 2 (runP 2) (mFn 2 m_c20m1) (mVar 0) (mCons (mVar 4) mNil)))) (mTb (mBin (fInD true) (mVar 5) (mMeth 5 2 (runP 2) (mFn 2 m_c20m1) (mVar 0) (mCons (mVar 4) mNil))))) (mTup (mCons (mVar 4) (mCons (mVar 5) mNil))) [4, 5])))
  (mRet (mMk 5 4 3 (mFn 4 m_c20m0) (mCons (mFld 5 0 (mVar 0)) (mCons (mCl cTuple (mCons (mVar 3) mNil)) mNil))))))))
abbrev s_d34 : Stmt := topS 34
theorem sc_d34 : FnScope ["web", "point", "seen", "waiting", "near", "fresh", "there"] ["web", "point"] (defScope s_d34) := ⟨rfl, rfl, rfl, by decide +kernel, rfl, by decide +kernel, by decide +kernel⟩
/-- piece_with -/
def m_d34 : MS := (mSeq (mSet 2 (mDN (mOneK (mVar 1) (mC (.bl true)))))
  (mSeq (mSet 3 (mN (mLstF (mCons (mVar 1) mNil))))
  (mSeq (mWh (mTb (mBin fNeD (mVar 3) (mL (mLstF mNil))))
  (mSeq (mSet 4 (mMeth 5 2 (runP 2) (mFn 2 m_c20m1) (mVar 0) (mCons (mMt qPop isLst (mVar 3) mNil) mNil)))
  (mSeq (mSet 5 (mL (mLc (mPick (mIT (mVar 4)) (mIL (mVar 4))) (gN 6) (mPick (mTb (mIn true (mVar 6) (mVar 2))) (mTb (mBin (fInD true) (mVar 6) (mVar 2)))) (mVar 6) [6])))
  (mSeq (mFor (mPick (mIT (mVar 5)) (mIL (mVar 5))) (gN 6)
  (mPickS (mAsg (mC (.bl true)) (gSubL (mVar 2) (mVar 6))) (mPut (mVar 2) (mVar 6) (mC (.bl true)))))
  (mExpr (mMt qExtend isLst (mVar 3) (mCons (mVar 5) mNil)))))))
  (mRet (mCl cTuple (mCons (mL (mCl (orF2 cSortI cSortDI) (mCons (mVar 2) mNil))) mNil))))))
abbrev s_d35 : Stmt := topS 35
theorem sc_d35 : FnScope ["web", "found", "seen", "point", "piece", "there"] ["web"] (defScope s_d35) := ⟨rfl, rfl, rfl, by decide +kernel, rfl, by decide +kernel, by decide +kernel⟩
/-- pieces -/
def m_d35 : MS := (mSeq (mExpr (mCallP 1 (mFn 1 m_d21) (mCons (mVar 0) mNil)))
  (mSeq (mSet 1 (mN (mLstF mNil)))
  (mSeq (mSet 2 (mDN mDnil))
  (mSeq (mFor (mIR1 (mCons (mCl (orC cLen (cLenI 5 (mFn 1 m_c20m3))) (mCons (mVar 0) mNil)) mNil)) (gN 3)
  (mIfS (mPick (mTb (mIn true (mVar 3) (mVar 2))) (mTb (mBin (fInD true) (mVar 3) (mVar 2))))
  (mSeq (mSet 4 (mCallP 2 (mFn 7 m_d34) (mCons (mVar 0) (mCons (mVar 3) mNil))))
  (mSeq (mExpr (mMt qAppend isLst (mVar 1) (mCons (mVar 4) mNil)))
  (mFor (mPick (mIT (mVar 4)) (mIL (mVar 4))) (gN 5)
  (mPickS (mAsg (mC (.bl true)) (gSubL (mVar 2) (mVar 5))) (mPut (mVar 2) (mVar 5) (mC (.bl true)))))))
  mPass))
  (mRet (mCl cTuple (mCons (mVar 1) mNil)))))))
abbrev s_d36 : Stmt := topS 36
theorem sc_d36 : FnScope ["web", "value"] ["web", "value"] (defScope s_d36) := ⟨rfl, rfl, rfl, by decide +kernel, rfl, by decide +kernel, by decide +kernel⟩
/-- is_row -/
def m_d36 : MS := (mSeq (mExpr (mCallP 1 (mFn 1 m_d21) (mCons (mVar 0) mNil)))
  (mRet (mCallP 2 (mFn 2 m_d23) (mCons (mVar 0) (mCons (mVar 1) mNil)))))
abbrev s_d37 : Stmt := topS 37
theorem sc_d37 : FnScope ["web", "row", "near", "pairs", "same", "tied", "low", "high", "point"] ["web", "row"] (defScope s_d37) := ⟨rfl, rfl, rfl, by decide +kernel, rfl, by decide +kernel, by decide +kernel⟩
/-- atom_at -/
def m_d37 : MS := (mSeq (mSet 2 (mFld 5 2 (mVar 0)))
  (mSeq (mSet 3 (mPick (mBin fIx (mC (.tup [(.tup []), (.tup []), (.tup [(.tup [(.int (0)), (.int (1))])]), (.tup [(.tup [(.int (0)), (.int (1))]), (.tup [(.int (0)), (.int (2))]), (.tup [(.int (1)), (.int (2))])]), (.tup [(.tup [(.int (0)), (.int (1))]), (.tup [(.int (0)), (.int (2))]), (.tup [(.int (0)), (.int (3))]), (.tup [(.int (1)), (.int (2))]), (.tup [(.int (1)), (.int (3))]), (.tup [(.int (2)), (.int (3))])])])) (mCl (orC cLen (cLenI 5 (mFn 1 m_c20m3))) (mCons (mVar 1) mNil))) (mGet (mC (.tup [(.tup []), (.tup []), (.tup [(.tup [(.int (0)), (.int (1))])]), (.tup [(.tup [(.int (0)), (.int (1))]), (.tup [(.int (0)), (.int (2))]), (.tup [(.int (1)), (.int (2))])]), (.tup [(.tup [(.int (0)), (.int (1))]), (.tup [(.int (0)), (.int (2))]), (.tup [(.int (0)), (.int (3))]), (.tup [(.int (1)), (.int (2))]), (.tup [(.int (1)), (.int (3))]), (.tup [(.int (2)), (.int (3))])])])) (mCl (orC cLen (cLenI 5 (mFn 1 m_c20m3))) (mCons (mVar 1) mNil)))))
  (mSeq (mSet 4 (mL (mLc (mPick (mIT (mVar 3)) (mIL (mVar 3))) (gTupM 2 (gsCons (gN 6) (gsCons (gN 7) gsNil))) (mTb (mBin fEqD (mPick (mBin fIx (mVar 1) (mVar 6)) (mGet (mVar 1) (mVar 6))) (mPick (mBin fIx (mVar 1) (mVar 7)) (mGet (mVar 1) (mVar 7))))) (mTup (mCons (mVar 6) (mCons (mVar 7) mNil))) [6, 7])))
  (mSeq (mSet 5 (mL (mLc (mPick (mIT (mVar 3)) (mIL (mVar 3))) (gTupM 2 (gsCons (gN 6) (gsCons (gN 7) gsNil))) (mPick (mTb (mIn false (mPick (mBin fIx (mVar 1) (mVar 7)) (mGet (mVar 1) (mVar 7))) (mPick (mBin fIx (mVar 2) (mPick (mBin fIx (mVar 1) (mVar 6)) (mGet (mVar 1) (mVar 6)))) (mGet (mVar 2) (mPick (mBin fIx (mVar 1) (mVar 6)) (mGet (mVar 1) (mVar 6))))))) (mTb (mBin (fInD false) (mPick (mBin fIx (mVar 1) (mVar 7)) (mGet (mVar 1) (mVar 7))) (mPick (mBin fIx (mVar 2) (mPick (mBin fIx (mVar 1) (mVar 6)) (mGet (mVar 1) (mVar 6)))) (mGet (mVar 2) (mPick (mBin fIx (mVar 1) (mVar 6)) (mGet (mVar 1) (mVar 6)))))))) (mTup (mCons (mVar 6) (mCons (mVar 7) mNil))) [6, 7])))
  (mRet (mTup (mCons (mCl cTuple (mCons (mL (mLc (mPick (mIT (mVar 1)) (mIL (mVar 1))) (gN 8) mYes (mPick (mBin fIx (mFld 5 0 (mVar 0)) (mVar 8)) (mGet (mFld 5 0 (mVar 0)) (mVar 8))) [8])) mNil)) (mCons (mCl cTuple (mCons (mVar 4) mNil)) (mCons (mCl cTuple (mCons (mVar 5) mNil)) mNil)))))))))
abbrev s_d38 : Stmt := topS 38
theorem sc_d38 : FnScope ["web", "row"] ["web", "row"] (defScope s_d38) := ⟨rfl, rfl, rfl, by decide +kernel, rfl, by decide +kernel, by decide +kernel⟩
/-- atom_of -/
def m_d38 : MS := (mSeq (mExpr (mCallP 1 (mFn 1 m_d21) (mCons (mVar 0) mNil)))
  (mSeq (mExpr (mCallP 2 (mFn 2 m_d24) (mCons (mVar 0) (mCons (mVar 1) mNil))))
  (mRet (mCallP 2 (mFn 9 m_d37) (mCons (mVar 0) (mCons (mVar 1) mNil))))))
abbrev s_d39 : Stmt := topS 39
theorem sc_d39 : FnScope ["one", "row", "other", "goal"] ["one", "row", "other", "goal"] (defScope s_d39) := ⟨rfl, rfl, rfl, by decide +kernel, rfl, by decide +kernel, by decide +kernel⟩
/-- are_like -/
def m_d39 : MS := (mSeq (mExpr (mCallP 1 (mFn 1 m_d21) (mCons (mVar 0) mNil)))
  (mSeq (mExpr (mCallP 2 (mFn 2 m_d24) (mCons (mVar 0) (mCons (mVar 1) mNil))))
  (mSeq (mExpr (mCallP 1 (mFn 1 m_d21) (mCons (mVar 2) mNil)))
  (mSeq (mExpr (mCallP 2 (mFn 2 m_d24) (mCons (mVar 2) (mCons (mVar 3) mNil))))
  (mRet (mBin fEqD (mCallP 2 (mFn 9 m_d37) (mCons (mVar 0) (mCons (mVar 1) mNil))) (mCallP 2 (mFn 9 m_d37) (mCons (mVar 2) (mCons (mVar 3) mNil)))))))))
abbrev s_d41 : Stmt := topS 41
theorem sc_d41 : FnScope ["script", "spot", "cell", "great", "seed"] ["script", "spot"] (defScope s_d41) := ⟨rfl, rfl, rfl, by decide +kernel, rfl, by decide +kernel, by decide +kernel⟩
/-- _law_wb_pot -/
def m_d41 : MS := (mSeq (mSet 2 (mIf (mTb (mBin (orF fLtI fLtT) (mVar 1) (mCl (orC cLen (cLenI 5 (mFn 1 m_c20m3))) (mCons (mVar 0) mNil)))) (mCl cInt (mCons (mPick (mBin fIx (mVar 0) (mVar 1)) (mGet (mVar 0) (mVar 1))) mNil)) (mBin fAdd (mBin (orF fMulW fRepW) (mC (.int 397)) (mVar 1)) (mC (.int 83)))))
  (mSeq (mSet 3 (mBin fModI (mCl cInt (mCons (mCl cAbs (mCons (mVar 2) mNil)) mNil)) (mBin fPowX (mBin fPowX (mC (.int 10)) (mC (.int 56))) (mC (.int 7)))))
  (mSeq (mSet 4 (mCl cInt (mCons (mBin fAdd (mBin fAdd (mBin fAdd (mBin (orF fMulW fRepW) (mBin fModI (mVar 3) (mC (.int 2305843009213693613))) (mC (.int 61))) (mBin (orF fMulW fRepW) (mC (.int 5003)) (mVar 1))) (mBin (orF fMulW fRepW) (mC (.int 43)) (mCl cInt (mCons (mBin (orF fLtI fLtT) (mVar 2) (mC (.int 0))) mNil)))) (mC (.int 29))) mNil)))
  (mRet (mN (mLstF (mCons (mCl cMax2 (mCons (mC (.int 0)) (mCons (mBin fSubI (mVar 3) (mBin fPowX (mC (.int 10)) (mC (.int 16)))) mNil))) (mCons (mBin fModI (mVar 4) (mC (.int 2305843009213693951))) (mCons (mC (.int 0)) mNil)))))))))
abbrev s_d42 : Stmt := topS 42
theorem sc_d42 : FnScope ["pot", "total", "found", "one", "two"] ["pot", "total"] (defScope s_d42) := ⟨rfl, rfl, rfl, by decide +kernel, rfl, by decide +kernel, by decide +kernel⟩
/-- _law_wb_toss -/
def m_d42 : MS := (mSeq (mIfS (mTb (mBin fGtI (mPick (mBin fIx (mVar 0) (mC (.int 0))) (mGet (mVar 0) (mC (.int 0)))) (mC (.int 0))))
  (mSeq (mSet 2 (mBin fModI (mCl cInt (mCons (mPick (mBin fIx (mVar 0) (mC (.int 0))) (mGet (mVar 0) (mC (.int 0)))) mNil)) (mVar 1)))
  (mSeq (mPickS (mAsg (mBin fDivW (mPick (mBin fIx (mVar 0) (mC (.int 0))) (mGet (mVar 0) (mC (.int 0)))) (mVar 1)) (gSubL (mVar 0) (mC (.int 0)))) (mPut (mVar 0) (mC (.int 0)) (mBin fDivW (mPick (mBin fIx (mVar 0) (mC (.int 0))) (mGet (mVar 0) (mC (.int 0)))) (mVar 1))))
  (mRet (mVar 2))))
  mPass)
  (mSeq (mPickS (mAsg (mBin fAdd (mPick (mBin fIx (mVar 0) (mC (.int 2))) (mGet (mVar 0) (mC (.int 2)))) (mC (.int 1))) (gSubL (mVar 0) (mC (.int 2)))) (mPut (mVar 0) (mC (.int 2)) (mBin fAdd (mPick (mBin fIx (mVar 0) (mC (.int 2))) (mGet (mVar 0) (mC (.int 2)))) (mC (.int 1)))))
  (mSeq (mSet 3 (mBin fModI (mCl cInt (mCons (mBin fAdd (mPick (mBin fIx (mVar 0) (mC (.int 1))) (mGet (mVar 0) (mC (.int 1)))) (mBin (orF fMulW fRepW) (mC (.int 49979693)) (mPick (mBin fIx (mVar 0) (mC (.int 2))) (mGet (mVar 0) (mC (.int 2)))))) mNil)) (mC (.int 2305843009213693951))))
  (mSeq (mSet 4 (mBin fAdd (mBin fAdd (mBin (orF fMulW fRepW) (mBin fModI (mCl cInt (mCons (mBin fAdd (mBin (orF fMulW fRepW) (mVar 3) (mVar 3)) (mC (.int 86028121))) mNil)) (mC (.int 2305843009213693921))) (mC (.int 32452867))) (mVar 3)) (mBin (orF fMulW fRepW) (mC (.int 19)) (mPick (mBin fIx (mVar 0) (mC (.int 2))) (mGet (mVar 0) (mC (.int 2)))))))
  (mRet (mBin fModI (mCl cInt (mCons (mBin fDivW (mVar 4) (mC (.int 65537))) mNil)) (mVar 1)))))))
abbrev s_d43 : Stmt := topS 43
theorem sc_d43 : FnScope ["items", "turn"] ["items", "turn"] (defScope s_d43) := ⟨rfl, rfl, rfl, by decide +kernel, rfl, by decide +kernel, by decide +kernel⟩
/-- _law_wb_turned -/
def m_d43 : MS := (mRet (mPick (mBin fIx (mVar 0) (mBin fModI (mCl cInt (mCons (mVar 1) mNil)) (mCl (orC cLen (cLenI 5 (mFn 1 m_c20m3))) (mCons (mVar 0) mNil)))) (mGet (mVar 0) (mBin fModI (mCl cInt (mCons (mVar 1) mNil)) (mCl (orC cLen (cLenI 5 (mFn 1 m_c20m3))) (mCons (mVar 0) mNil))))))
abbrev s_c20m2 : Stmt := inClass (topS 20) 2
theorem sc_c20m2 : FnScope ["self", "here", "there"] ["self", "here", "there"] (defScope s_c20m2) := ⟨rfl, rfl, rfl, by decide +kernel, rfl, by decide +kernel, by decide +kernel⟩
/-- Web.is_tied -/
def m_c20m2 : MS := (mSeq (mExpr (mCallP 2 (mFn 2 m_d22) (mCons (mVar 0) (mCons (mVar 1) mNil))))
  (mSeq (mExpr (mCallP 2 (mFn 2 m_d22) (mCons (mVar 0) (mCons (mVar 2) mNil))))
  (mRet (mPick (mIn false (mVar 2) (mPick (mBin fIx (mFld 5 2 (mVar 0)) (mVar 1)) (mGet (mFld 5 2 (mVar 0)) (mVar 1)))) (mBin (fInD false) (mVar 2) (mPick (mBin fIx (mFld 5 2 (mVar 0)) (mVar 1)) (mGet (mFld 5 2 (mVar 0)) (mVar 1))))))))
abbrev s_d45 : Stmt := topS 45
theorem sc_d45 : FnScope ["turn", "web", "colours", "ties", "bad", "none", "points", "names", "shades", "row", "point", "told", "due", "call", "value", "word"] ["turn"] (defScope s_d45) := ⟨rfl, rfl, rfl, by decide +kernel, rfl, by decide +kernel, by decide +kernel⟩
/-- _law_right -/
def m_d45 : MS := (mSeq (mSet 1 (mMk 5 4 3 (mFn 4 m_c20m0) (mCons (mTup (mCons (mC (.int 0)) (mCons (mC (.int 1)) (mCons (mC (.int 1)) mNil)))) (mCons (mTup (mCons (mTup (mCons (mC (.int 0)) (mCons (mC (.int 1)) mNil))) (mCons (mTup (mCons (mC (.int 1)) (mCons (mC (.int 2)) mNil))) mNil))) mNil))))
  (mSeq (mSet 2 (mL (mLstF (mCons (mC .non) (mCons (mC (.int 0)) (mCons (mL (mLstF (mCons (mC (.int 0)) mNil))) (mCons (mTup (mCons (mUn fNeg (mC (.int 2))) mNil)) (mCons (mTup (mCons (mC (.int 10)) mNil)) (mCons (mTup (mCons (mC (.bl true)) mNil)) (mCons (mTup (mCons (mC (.str "0")) mNil)) (mCons (mTup (mCons (mC .non) mNil)) (mCons (mBin (orF fMulW fRepW) (mTup (mCons (mC (.int 0)) mNil)) (mC (.int 41))) (mCons (mD mDnil) (mCons (mC (.str "0")) (mCons (mTup (mCons (mTup (mCons (mC (.int 0)) mNil)) mNil)) (mCons (mTup (mCons (mBin fPowX (mC (.int 10)) (mC (.int 30))) mNil)) mNil))))))))))))))))
  (mSeq (mSet 3 (mL (mLstF (mCons (mC .non) (mCons (mL (mLstF mNil)) (mCons (mTup (mCons (mTup (mCons (mC (.int 1)) (mCons (mC (.int 0)) mNil))) mNil)) (mCons (mTup (mCons (mTup (mCons (mC (.int 0)) (mCons (mC (.int 0)) mNil))) mNil)) (mCons (mTup (mCons (mTup (mCons (mC (.int 0)) (mCons (mC (.int 3)) mNil))) mNil)) (mCons (mTup (mCons (mTup (mCons (mUn fNeg (mC (.int 1))) (mCons (mC (.int 0)) mNil))) mNil)) (mCons (mTup (mCons (mTup (mCons (mC (.int 0)) (mCons (mC (.int 1)) (mCons (mC (.int 2)) mNil)))) mNil)) (mCons (mTup (mCons (mTup (mCons (mC (.int 0)) (mCons (mC (.int 2)) mNil))) (mCons (mTup (mCons (mC (.int 0)) (mCons (mC (.int 1)) mNil))) mNil))) (mCons (mTup (mCons (mTup (mCons (mC (.int 0)) (mCons (mC (.int 1)) mNil))) (mCons (mTup (mCons (mC (.int 0)) (mCons (mC (.int 1)) mNil))) mNil))) (mCons (mTup (mCons (mTup (mCons (mC (.int 0)) mNil)) mNil)) (mCons (mTup (mCons (mL (mLstF (mCons (mC (.int 0)) (mCons (mC (.int 1)) mNil)))) mNil)) mNil))))))))))))))
  (mSeq (mSet 3 (mCallP 2 (mFn 2 m_d43) (mCons (mBin fAdd (mVar 3) (mL (mLstF (mCons (mTup (mCons (mTup (mCons (mC (.int 0)) (mCons (mC (.bl true)) mNil))) mNil)) (mCons (mTup (mCons (mTup (mCons (mC (.str "0")) (mCons (mC (.int 1)) mNil))) mNil)) (mCons (mTup (mCons (mTup (mCons (mC (.bl false)) (mCons (mC (.int 1)) mNil))) mNil)) (mCons (mD mDnil) (mCons (mTup (mCons (mC (.int 0)) (mCons (mC (.int 1)) mNil))) (mCons (mTup (mCons (mTup (mCons (mC (.int 0)) (mCons (mC .non) mNil))) mNil)) (mCons (mC (.int 5)) mNil)))))))))) (mCons (mVar 0) mNil))))
  (mSeq (mSet 4 (mCallP 2 (mFn 2 m_d43) (mCons (mVar 2) (mCons (mVar 0) mNil))))
  (mSeq (mSet 5 (mCallP 2 (mFn 2 m_d43) (mCons (mL (mLstF (mCons (mC .non) (mCons (mC (.int 0)) (mCons (mTup mNil) (mCons (mC (.str "web")) (mCons (mTup (mCons (mTup (mCons (mC (.int 0)) mNil)) (mCons (mTup mNil) mNil))) (mCons (mL (mLstF (mCons (mVar 1) mNil))) (mCons (mD mDnil) (mCons (mC (.bl true)) mNil)))))))))) (mCons (mVar 0) mNil))))
  (mSeq (mSet 6 (mL (mLstF (mCons (mC .non) (mCons (mL (mLstF (mCons (mC (.int 0)) mNil))) (mCons (mTup (mCons (mC (.int 0)) (mCons (mC (.int 0)) mNil))) (mCons (mTup (mCons (mC (.int 1)) (mCons (mC (.int 0)) mNil))) (mCons (mTup (mCons (mC (.int 0)) (mCons (mC (.int 3)) mNil))) (mCons (mTup (mCons (mUn fNeg (mC (.int 1))) mNil)) (mCons (mTup (mCons (mC (.bl true)) mNil)) (mCons (mTup (mCons (mC (.str "0")) mNil)) (mCons (mC (.int 0)) (mCons (mD mDnil) (mCons (mTup (mCons (mC (.int 0)) (mCons (mC (.int 1)) (mCons (mC (.int 2)) (mCons (mC (.int 3)) mNil))))) (mCons (mTup (mCons (mC .non) mNil)) (mCons (mTup (mCons (mTup (mCons (mC (.int 0)) mNil)) mNil)) mNil))))))))))))))))
  (mSeq (mSet 6 (mCallP 2 (mFn 2 m_d43) (mCons (mVar 6) (mCons (mVar 0) mNil))))
  (mSeq (mSet 7 (mL (mLstF (mCons (mC .non) (mCons (mL (mLstF (mCons (mC (.int 0)) (mCons (mC (.int 1)) (mCons (mC (.int 2)) mNil))))) (mCons (mTup (mCons (mC (.int 0)) (mCons (mC (.int 1)) mNil))) (mCons (mTup (mCons (mC (.int 0)) (mCons (mC (.int 1)) (mCons (mC (.int 1)) mNil)))) (mCons (mTup (mCons (mC (.int 0)) (mCons (mC (.int 1)) (mCons (mC (.int 3)) mNil)))) (mCons (mTup (mCons (mC (.int 0)) (mCons (mC (.int 1)) (mCons (mC (.int 2)) (mCons (mC (.int 2)) mNil))))) (mCons (mTup (mCons (mC (.bl true)) (mCons (mC (.int 0)) (mCons (mC (.int 2)) mNil)))) (mCons (mTup (mCons (mC (.str "0")) (mCons (mC (.int 1)) (mCons (mC (.int 2)) mNil)))) (mCons (mD mDnil) (mCons (mC (.int 5)) (mCons (mTup (mCons (mC (.int 0)) (mCons (mC (.int 1)) (mCons (mUn fNeg (mC (.int 1))) mNil)))) (mCons (mTup mNil) mNil)))))))))))))))
  (mSeq (mSet 7 (mCallP 2 (mFn 2 m_d43) (mCons (mVar 7) (mCons (mVar 0) mNil))))
  (mSeq (mSet 8 (mL (mLstF (mCons (mC .non) (mCons (mTup (mCons (mC (.int 0)) (mCons (mC (.int 0)) mNil))) (mCons (mTup (mCons (mC (.int 0)) (mCons (mC (.int 0)) (mCons (mC (.int 0)) (mCons (mC (.int 0)) mNil))))) (mCons (mTup (mCons (mC (.int 0)) (mCons (mC (.int 0)) (mCons (mC (.int 10)) mNil)))) (mCons (mTup (mCons (mC (.int 0)) (mCons (mC (.int 0)) (mCons (mUn fNeg (mC (.int 2))) mNil)))) (mCons (mL (mLstF (mCons (mC (.int 0)) (mCons (mC (.int 0)) (mCons (mC (.int 0)) mNil))))) (mCons (mTup (mCons (mC (.int 0)) (mCons (mC (.int 0)) (mCons (mC (.bl true)) mNil)))) (mCons (mTup (mCons (mC (.int 0)) (mCons (mC (.int 0)) (mCons (mC (.str "0")) mNil)))) (mCons (mD mDnil) (mCons (mC (.str "000")) (mCons (mC (.int 0)) (mCons (mTup mNil) mNil)))))))))))))))
  (mSeq (mSet 8 (mCallP 2 (mFn 2 m_d43) (mCons (mVar 8) (mCons (mVar 0) mNil))))
  (mSeq (mSet 9 (mL (mLstF (mCons (mC .non) (mCons (mC (.int 0)) (mCons (mL (mLstF (mCons (mC (.int 0)) mNil))) (mCons (mTup (mCons (mC (.int 3)) mNil)) (mCons (mTup (mCons (mUn fNeg (mC (.int 1))) mNil)) (mCons (mTup (mCons (mC (.bl true)) mNil)) (mCons (mTup (mCons (mC (.str "0")) mNil)) (mCons (mTup (mCons (mC (.int 0)) (mCons (mC (.int 1)) (mCons (mC (.int 2)) (mCons (mC (.int 0)) (mCons (mC (.int 1)) mNil)))))) (mCons (mTup (mCons (mC .non) mNil)) (mCons (mD mDnil) (mCons (mC (.str "0")) (mCons (mTup (mCons (mTup (mCons (mC (.int 0)) mNil)) mNil)) (mCons (mTup (mCons (mBin fPowX (mC (.int 10)) (mC (.int 40))) mNil)) mNil))))))))))))))))
  (mSeq (mSet 9 (mCallP 2 (mFn 2 m_d43) (mCons (mVar 9) (mCons (mVar 0) mNil))))
  (mSeq (mSet 10 (mCallP 2 (mFn 2 m_d43) (mCons (mL (mLstF (mCons (mC .non) (mCons (mUn fNeg (mC (.int 1))) (mCons (mC (.int 3)) (mCons (mC (.bl true)) (mCons (mC (.str "0")) (mCons (mTup (mCons (mC (.int 0)) mNil)) (mCons (mBin fPowX (mC (.int 10)) (mC (.int 60))) (mCons (mL (mLstF mNil)) mNil)))))))))) (mCons (mVar 0) mNil))))
  (mSeq (mSet 11 (mN (mLstF (mCons (mMet 2 5 metL metF (mMk 5 4 3 (mFn 4 m_c20m0) (mCons (mVar 4) (mCons (mTup mNil) mNil)))) mNil))))
  (mSeq (mExpr (mMt qAppend isLst (mVar 11) (mCons (mMet 2 5 metL metF (mMk 5 4 3 (mFn 4 m_c20m0) (mCons (mVar 4) (mCons (mVar 3) mNil)))) mNil)))
  (mSeq (mExpr (mMt qAppend isLst (mVar 11) (mCons (mMet 2 5 metL metF (mMk 5 4 3 (mFn 4 m_c20m0) (mCons (mTup (mCons (mC (.int 0)) (mCons (mC (.int 0)) (mCons (mC (.int 0)) mNil)))) (mCons (mVar 3) mNil)))) mNil)))
  (mSeq (mSet 12 (mN (mLstF (mCons (mC (.str "web")) (mCons (mC (.str "web")) (mCons (mC (.str "web")) mNil))))))
  (mSeq (mExpr (mMt qAppend isLst (mVar 11) (mCons (mMet 2 5 metL metF (mMeth 5 2 (runP 2) (mFn 2 m_c20m1) (mVar 1) (mCons (mVar 10) mNil))) mNil)))
  (mSeq (mExpr (mMt qAppend isLst (mVar 11) (mCons (mMet 2 5 metL metF (mMeth 5 3 (runP 3) (mFn 3 m_c20m2) (mVar 1) (mCons (mVar 10) (mCons (mC .non) mNil)))) mNil)))
  (mSeq (mExpr (mMt qAppend isLst (mVar 11) (mCons (mMet 2 5 metL metF (mMeth 5 3 (runP 3) (mFn 3 m_c20m2) (mVar 1) (mCons (mC (.int 0)) (mCons (mVar 10) mNil)))) mNil)))
  (mSeq (mSet 12 (mN (mBinF fCatL (mVar 12) (mL (mRepF (mLstF (mCons (mBin fAdd (mC (.str "number ")) (mCl fReprD (mCons (mVar 10) mNil))) mNil)) (mC (.int 3)))))))
  (mSeq (mFor (mPick (mIT (mTup (mCons (mTup (mCons (mC (.glo 24)) (mCons (mVar 6) mNil))) (mCons (mTup (mCons (mC (.glo 25)) (mCons (mVar 7) mNil))) (mCons (mTup (mCons (mC (.glo 26)) (mCons (mVar 8) mNil))) mNil))))) (mIL (mTup (mCons (mTup (mCons (mC (.glo 24)) (mCons (mVar 6) mNil))) (mCons (mTup (mCons (mC (.glo 25)) (mCons (mVar 7) mNil))) (mCons (mTup (mCons (mC (.glo 26)) (mCons (mVar 8) mNil))) mNil)))))) (gTupM 2 (gsCons (gN 13) (gsCons (gN 14) gsNil)))
  (mSeq (mExpr (mMt qAppend isLst (mVar 11) (mCons (mMet 2 5 metL metF (mCallV 13 ((29, 2, mFn 2 m_d31) :: ((30, 2, mFn 6 m_d32) :: ((31, 1, mFn 6 m_d33) :: ((24, 2, mFn 8 m_d26) :: ((33, 1, mFn 6 m_d35) :: ((26, 2, mFn 2 m_d28) :: ((25, 2, mFn 8 m_d27) :: []))))))) (mCons (mVar 5) (mCons (mVar 14) mNil)))) mNil)))
  (mSeq (mExpr (mMt qAppend isLst (mVar 11) (mCons (mMet 2 5 metL metF (mCallV 13 ((29, 2, mFn 2 m_d31) :: ((30, 2, mFn 6 m_d32) :: ((31, 1, mFn 6 m_d33) :: ((24, 2, mFn 8 m_d26) :: ((33, 1, mFn 6 m_d35) :: ((26, 2, mFn 2 m_d28) :: ((25, 2, mFn 8 m_d27) :: []))))))) (mCons (mVar 1) (mCons (mVar 14) mNil)))) mNil)))
  (mSet 12 (mN (mBinF fCatL (mVar 12) (mL (mLstF (mCons (mC (.str "web")) (mCons (mC (.str "operation")) mNil))))))))))
  (mSeq (mFor (mPick (mIT (mTup (mCons (mC (.glo 29)) (mCons (mC (.glo 30)) mNil)))) (mIL (mTup (mCons (mC (.glo 29)) (mCons (mC (.glo 30)) mNil))))) (gN 13)
  (mSeq (mExpr (mMt qAppend isLst (mVar 11) (mCons (mMet 2 5 metL metF (mCallV 13 ((29, 2, mFn 2 m_d31) :: ((30, 2, mFn 6 m_d32) :: ((31, 1, mFn 6 m_d33) :: ((24, 2, mFn 8 m_d26) :: ((33, 1, mFn 6 m_d35) :: ((26, 2, mFn 2 m_d28) :: ((25, 2, mFn 8 m_d27) :: []))))))) (mCons (mVar 5) (mCons (mVar 5) mNil)))) mNil)))
  (mSeq (mExpr (mMt qAppend isLst (mVar 11) (mCons (mMet 2 5 metL metF (mCallV 13 ((29, 2, mFn 2 m_d31) :: ((30, 2, mFn 6 m_d32) :: ((31, 1, mFn 6 m_d33) :: ((24, 2, mFn 8 m_d26) :: ((33, 1, mFn 6 m_d35) :: ((26, 2, mFn 2 m_d28) :: ((25, 2, mFn 8 m_d27) :: []))))))) (mCons (mVar 1) (mCons (mVar 5) mNil)))) mNil)))
  (mSet 12 (mN (mBinF fCatL (mVar 12) (mL (mLstF (mCons (mC (.str "web")) (mCons (mC (.str "web")) mNil))))))))))
  (mSeq (mFor (mPick (mIT (mTup (mCons (mC (.glo 31)) (mCons (mC (.glo 33)) mNil)))) (mIL (mTup (mCons (mC (.glo 31)) (mCons (mC (.glo 33)) mNil))))) (gN 13)
  (mSeq (mExpr (mMt qAppend isLst (mVar 11) (mCons (mMet 2 5 metL metF (mCallV 13 ((29, 2, mFn 2 m_d31) :: ((30, 2, mFn 6 m_d32) :: ((31, 1, mFn 6 m_d33) :: ((24, 2, mFn 8 m_d26) :: ((33, 1, mFn 6 m_d35) :: ((26, 2, mFn 2 m_d28) :: ((25, 2, mFn 8 m_d27) :: []))))))) (mCons (mVar 5) mNil))) mNil)))
  (mExpr (mMt qAppend isLst (mVar 12) (mCons (mC (.str "web")) mNil)))))
  (mSeq (mExpr (mMt qAppend isLst (mVar 11) (mCons (mMet 2 5 metL metF (mCallP 2 (mFn 2 m_d36) (mCons (mVar 5) (mCons (mVar 9) mNil)))) mNil)))
  (mSeq (mExpr (mMt qAppend isLst (mVar 11) (mCons (mMet 2 5 metL metF (mCallP 2 (mFn 2 m_d38) (mCons (mVar 5) (mCons (mVar 9) mNil)))) mNil)))
  (mSeq (mExpr (mMt qAppend isLst (mVar 11) (mCons (mMet 2 5 metL metF (mCallP 2 (mFn 2 m_d38) (mCons (mVar 1) (mCons (mVar 9) mNil)))) mNil)))
  (mSeq (mExpr (mMt qAppend isLst (mVar 11) (mCons (mMet 2 5 metL metF (mCallP 4 (mFn 4 m_d39) (mCons (mVar 5) (mCons (mVar 9) (mCons (mVar 5) (mCons (mVar 9) mNil)))))) mNil)))
  (mSeq (mExpr (mMt qAppend isLst (mVar 11) (mCons (mMet 2 5 metL metF (mCallP 4 (mFn 4 m_d39) (mCons (mVar 1) (mCons (mVar 9) (mCons (mVar 5) (mCons (mVar 9) mNil)))))) mNil)))
  (mSeq (mExpr (mMt qAppend isLst (mVar 11) (mCons (mMet 2 5 metL metF (mCallP 4 (mFn 4 m_d39) (mCons (mVar 1) (mCons (mTup (mCons (mC (.int 0)) mNil)) (mCons (mVar 5) (mCons (mVar 9) mNil)))))) mNil)))
  (mSeq (mExpr (mMt qAppend isLst (mVar 11) (mCons (mMet 2 5 metL metF (mCallP 4 (mFn 4 m_d39) (mCons (mVar 1) (mCons (mTup (mCons (mC (.int 0)) mNil)) (mCons (mVar 1) (mCons (mVar 9) mNil)))))) mNil)))
  (mSeq (mSet 12 (mN (mBinF fCatL (mVar 12) (mL (mLstF (mCons (mC (.str "web")) (mCons (mC (.str "web")) (mCons (mC (.str "row")) (mCons (mC (.str "web")) (mCons (mC (.str "row")) (mCons (mC (.str "web")) (mCons (mC (.str "row")) mNil))))))))))))
  (mRet (mAndV (mBin fEqD (mVar 11) (mL (mLc (mPick (mIT (mVar 12)) (mIL (mVar 12))) (gN 15) mYes (mTup (mCons (mC (.str "met")) (mCons (mVar 15) mNil))) [15]))) (mNotV (mCallP 2 (mFn 2 m_d36) (mCons (mVar 1) (mCons (mVar 9) mNil))))))))))))))))))))))))))))))))))))))))
abbrev s_d46 : Stmt := topS 46
theorem sc_d46 : FnScope ["script", "spot", "shift", "turn", "most", "lone", "told", "word"] ["script"] (defScope s_d46) := ⟨rfl, rfl, rfl, by decide +kernel, rfl, by decide +kernel, by decide +kernel⟩
/-- law -/
def m_d46 : MS := (mSeq (mFor (mIR1 (mCons (mCl cMax2 (mCons (mC (.int 1)) (mCons (mCl cMin2 (mCons (mC (.int 2)) (mCons (mCl (orC cLen (cLenI 5 (mFn 1 m_c20m3))) (mCons (mVar 0) mNil)) mNil))) mNil))) mNil)) (gN 1)
  (mSeq (mSet 2 (mTr0 (mCall 2 (mFn 5 m_d42) (mCons (mCall 2 (mFn 5 m_d41) (mCons (mVar 0) (mCons (mVar 1) mNil))) (mCons (mC (.int 1000)) mNil)))))
  (mFor (mIR1 (mCons (mC (.int 18)) mNil)) (gN 3)
  (mIfS (mNotT (mTb (mCallP 1 (mFn 16 m_d45) (mCons (mBin fAdd (mVar 2) (mVar 3)) mNil))))
  (mRet (mC (.bl false)))
  mPass))))
  (mSeq (mAsg (mTup (mCons (mMk 5 4 3 (mFn 4 m_c20m0) (mCons (mBin (orF fMulW fRepW) (mTup (mCons (mC (.int 9)) (mCons (mUn fNeg (mC (.int 1))) mNil))) (mC (.int 20))) (mCons (mTup (mCons (mTup (mCons (mC (.int 0)) (mCons (mC (.int 39)) mNil))) mNil)) mNil))) (mCons (mMk 5 4 3 (mFn 4 m_c20m0) (mCons (mTup (mCons (mC (.int 0)) mNil)) (mCons (mTup mNil) mNil))) mNil))) (gTupM 2 (gsCons (gN 4) (gsCons (gN 5) gsNil))))
  (mSeq (mSet 6 (mN (mLstF (mCons (mMet 2 5 metL metF (mCallP 2 (mFn 2 m_d31) (mCons (mVar 4) (mCons (mVar 5) mNil)))) mNil))))
  (mSeq (mExpr (mMt qAppend isLst (mVar 6) (mCons (mMet 2 5 metL metF (mCallP 2 (mFn 6 m_d32) (mCons (mVar 4) (mCons (mVar 5) mNil)))) mNil)))
  (mSeq (mExpr (mMt qAppend isLst (mVar 6) (mCons (mMet 2 5 metL metF (mCallP 2 (mFn 6 m_d32) (mCons (mVar 5) (mCons (mVar 4) mNil)))) mNil)))
  (mSeq (mExpr (mMt qAppend isLst (mVar 6) (mCons (mMet 2 5 metL metF (mCallP 2 (mFn 2 m_d31) (mCons (mVar 4) (mCons (mMk 5 4 3 (mFn 4 m_c20m0) (mCons (mTup mNil) (mCons (mTup mNil) mNil))) mNil)))) mNil)))
  (mSeq (mExpr (mMt qAppend isLst (mVar 6) (mCons (mMet 2 5 metL metF (mCallP 2 (mFn 2 m_d38) (mCons (mVar 4) (mCons (mTup (mCons (mC (.int 39)) (mCons (mC (.int 39)) (mCons (mC (.int 0)) (mCons (mC (.int 39)) mNil))))) mNil)))) mNil)))
  (mSeq (mExpr (mMt qAppend isLst (mVar 6) (mCons (mMet 2 5 metL metF (mCallP 2 (mFn 8 m_d26) (mCons (mVar 4) (mCons (mTup mNil) mNil)))) mNil)))
  (mSeq (mExpr (mMt qAppend isLst (mVar 6) (mCons (mMet 2 5 metL metF (mCallP 2 (mFn 8 m_d27) (mCons (mMk 5 4 3 (mFn 4 m_c20m0) (mCons (mTup mNil) (mCons (mTup mNil) mNil))) (mCons (mTup mNil) mNil)))) mNil)))
  (mRet (mBin fEqD (mVar 6) (mL (mLc (mPick (mIT (mBin fAdd (mL (mRepF (mLstF (mCons (mC (.str "many 40")) mNil)) (mC (.int 3)))) (mL (mRepF (mLstF (mCons (mC (.str "fine")) mNil)) (mC (.int 4)))))) (mIL (mBin fAdd (mL (mRepF (mLstF (mCons (mC (.str "many 40")) mNil)) (mC (.int 3)))) (mL (mRepF (mLstF (mCons (mC (.str "fine")) mNil)) (mC (.int 4))))))) (gN 7) mYes (mTup (mCons (mC (.str "met")) (mCons (mVar 7) mNil))) [7])))))))))))))
abbrev s_c20m4 : Stmt := inClass (topS 20) 4
theorem sc_c20m4 : FnScope ["self", "value"] ["self", "value"] (defScope s_c20m4) := ⟨rfl, rfl, rfl, by decide +kernel, rfl, by decide +kernel, by decide +kernel⟩
/-- Web.__contains__ -/
def m_c20m4 : MS := (mRet (mCallP 3 (mFn 3 m_d8) (mCons (mVar 1) (mCons (mC (.int 0)) (mCons (mBin fSubI (mCl (orC cLen (cLenI 5 (mFn 1 m_c20m3))) (mCons (mFld 5 0 (mVar 0)) mNil)) (mC (.int 1))) mNil)))))
abbrev s_c20m5 : Stmt := inClass (topS 20) 5
theorem sc_c20m5 : FnScope ["self", "other"] ["self", "other"] (defScope s_c20m5) := ⟨rfl, rfl, rfl, by decide +kernel, rfl, by decide +kernel, by decide +kernel⟩
/-- Web.__eq__ -/
def m_c20m5 : MS := (mRet (mAndV (mCl (cIsi isF) (mCons (mVar 1) (mCons (mC (.glo 12)) mNil))) (mAndV (mBin fEqD (mFld 5 0 (mVar 0)) (mFld 5 0 (mVar 1))) (mBin fEqD (mFld 5 1 (mVar 0)) (mFld 5 1 (mVar 1))))))
abbrev s_d44 : Stmt := topS 44
theorem sc_d44 : FnScope ["call", "error"] ["call"] (defScope s_d44) := ⟨rfl, rfl, rfl, by decide +kernel, rfl, by decide +kernel, by decide +kernel⟩
/-- what the top has written -/
structure Fx (P : Program) (w : World) (K : PySem.W.Frag) (mg : Str → Option Value) (base : Heap) (T : Tx) (ad : Nat → Addr) (fd : Nat → FuncData) (cv : Nat → Value) (bm : List Value) : Prop where
  apart : Apart T 5
  b_abs : mg "abs" = none
  b_enumerate : mg "enumerate" = none
  b_int : mg "int" = none
  b_isinstance : mg "isinstance" = none
  b_len : mg "len" = none
  b_list : mg "list" = none
  b_max : mg "max" = none
  b_min : mg "min" = none
  b_range : mg "range" = none
  b_repr : mg "repr" = none
  b_sorted : mg "sorted" = none
  b_tuple : mg "tuple" = none
  b_type : mg "type" = none
  cN : T.cN = cNm
  cls5 : Cls K (T.cA 5)
  co__law_right : (fd 32).code = .ref (ad 37)
  co_law : (fd 33).code = .ref (ad 39)
  d_c20m0 : Binds K (fd 12) ["self", "colours", "ties"] []
  d_c20m1 : Binds K (fd 20) ["self", "point"] []
  d_c20m2 : Binds K (fd 31) ["self", "here", "there"] []
  d_c20m3 : Binds K (fd 2) ["self"] []
  d_d10 : Binds K (fd 3) ["members"] []
  d_d17 : Binds K (fd 4) ["value"] []
  d_d18 : Binds K (fd 5) ["value", "many"] []
  d_d19 : Binds K (fd 6) ["many", "ties"] []
  d_d21 : Binds K (fd 7) ["web"] []
  d_d22 : Binds K (fd 8) ["web", "point"] []
  d_d23 : Binds K (fd 9) ["web", "value"] []
  d_d24 : Binds K (fd 10) ["web", "row"] []
  d_d25 : Binds K (fd 11) ["web", "value"] []
  d_d26 : Binds K (fd 13) ["web", "points"] []
  d_d27 : Binds K (fd 14) ["web", "names"] []
  d_d28 : Binds K (fd 15) ["web", "colours"] []
  d_d29 : Binds K (fd 16) ["one", "other"] []
  d_d30 : Binds K (fd 17) ["one", "other"] []
  d_d31 : Binds K (fd 18) ["one", "other"] []
  d_d32 : Binds K (fd 19) ["one", "other"] []
  d_d33 : Binds K (fd 21) ["web"] []
  d_d34 : Binds K (fd 22) ["web", "point"] []
  d_d35 : Binds K (fd 23) ["web"] []
  d_d36 : Binds K (fd 24) ["web", "value"] []
  d_d37 : Binds K (fd 25) ["web", "row"] []
  d_d38 : Binds K (fd 26) ["web", "row"] []
  d_d39 : Binds K (fd 27) ["one", "row", "other", "goal"] []
  d_d41 : Binds K (fd 28) ["script", "spot"] []
  d_d42 : Binds K (fd 29) ["pot", "total"] []
  d_d43 : Binds K (fd 30) ["items", "turn"] []
  d_d44 : Binds K (fd 36) ["call"] []
  d_d45 : Binds K (fd 32) ["turn"] []
  d_d8 : Binds K (fd 0) ["value", "low", "high"] []
  d_d9 : Binds K (fd 1) ["value", "low", "high"] []
  d_i3 : Binds K (fd 41) ["self", "given"] []
  d_i4 : Binds K (fd 42) ["self", "most"] []
  e3 : ExF K (T.cA 3) "given"
  e4 : ExF K (T.cA 4) "most"
  ex : T.ex = none
  f_c20m0 : Fun K "__init__" "Web.__init__" s_c20m0 (ad 12) (fd 12)
  f_c20m1 : Fun K "near" "Web.near" s_c20m1 (ad 20) (fd 20)
  f_c20m2 : Fun K "is_tied" "Web.is_tied" s_c20m2 (ad 31) (fd 31)
  f_c20m3 : Fun K "__len__" "Web.__len__" s_c20m3 (ad 2) (fd 2)
  f_c20m4 : Fun K "__contains__" "Web.__contains__" s_c20m4 (ad 34) (fd 34)
  f_c20m5 : Fun K "__eq__" "Web.__eq__" s_c20m5 (ad 35) (fd 35)
  f_d10 : Fun K "is_ascending" "is_ascending" s_d10 (ad 3) (fd 3)
  f_d17 : Fun K "are_colours" "are_colours" s_d17 (ad 4) (fd 4)
  f_d18 : Fun K "are_ties" "are_ties" s_d18 (ad 5) (fd 5)
  f_d19 : Fun K "near_points" "near_points" s_d19 (ad 6) (fd 6)
  f_d21 : Fun K "check_web" "check_web" s_d21 (ad 7) (fd 7)
  f_d22 : Fun K "check_point" "check_point" s_d22 (ad 8) (fd 8)
  f_d23 : Fun K "is_row_of" "is_row_of" s_d23 (ad 9) (fd 9)
  f_d24 : Fun K "check_row" "check_row" s_d24 (ad 10) (fd 10)
  f_d25 : Fun K "is_lot" "is_lot" s_d25 (ad 11) (fd 11)
  f_d26 : Fun K "part" "part" s_d26 (ad 13) (fd 13)
  f_d27 : Fun K "renamed" "renamed" s_d27 (ad 14) (fd 14)
  f_d28 : Fun K "recoloured" "recoloured" s_d28 (ad 15) (fd 15)
  f_d29 : Fun K "ties_beside" "ties_beside" s_d29 (ad 16) (fd 16)
  f_d30 : Fun K "check_both" "check_both" s_d30 (ad 17) (fd 17)
  f_d31 : Fun K "beside" "beside" s_d31 (ad 18) (fd 18)
  f_d32 : Fun K "joined" "joined" s_d32 (ad 19) (fd 19)
  f_d33 : Fun K "opposite" "opposite" s_d33 (ad 21) (fd 21)
  f_d34 : Fun K "piece_with" "piece_with" s_d34 (ad 22) (fd 22)
  f_d35 : Fun K "pieces" "pieces" s_d35 (ad 23) (fd 23)
  f_d36 : Fun K "is_row" "is_row" s_d36 (ad 24) (fd 24)
  f_d37 : Fun K "atom_at" "atom_at" s_d37 (ad 25) (fd 25)
  f_d38 : Fun K "atom_of" "atom_of" s_d38 (ad 26) (fd 26)
  f_d39 : Fun K "are_like" "are_like" s_d39 (ad 27) (fd 27)
  f_d41 : Fun K "_law_wb_pot" "_law_wb_pot" s_d41 (ad 28) (fd 28)
  f_d42 : Fun K "_law_wb_toss" "_law_wb_toss" s_d42 (ad 29) (fd 29)
  f_d43 : Fun K "_law_wb_turned" "_law_wb_turned" s_d43 (ad 30) (fd 30)
  f_d44 : Fun K "_law_met" "_law_met" s_d44 (ad 36) (fd 36)
  f_d45 : Fun K "_law_right" "_law_right" s_d45 (ad 32) (fd 32)
  f_d46 : Fun K "law" "law" s_d46 (ad 33) (fd 33)
  f_d8 : Fun K "is_between" "is_between" s_d8 (ad 0) (fd 0)
  f_d9 : Fun K "are_between" "are_between" s_d9 (ad 1) (fd 1)
  g_Web : T.g 12 = .ref (T.cA 5)
  g_beside : T.g 29 = .ref (ad 18)
  g_joined : T.g 30 = .ref (ad 19)
  g_opposite : T.g 31 = .ref (ad 21)
  g_part : T.g 24 = .ref (ad 13)
  g_pieces : T.g 33 = .ref (ad 23)
  g_recoloured : T.g 26 = .ref (ad 15)
  g_renamed : T.g 25 = .ref (ad 14)
  g_tuple : T.g 2 = .ty "tuple"
  i3 : PySem.W.findIn K (.ref (T.cA 3)) "__init__" = some (some (.ref (ad 41)))
  i4 : PySem.W.findIn K (.ref (T.cA 4)) "__init__" = some (some (.ref (ad 42)))
  isi : ∀ {X : Cx}, X.K = K → IsiOk X T isF
  k : K = T.K
  k0 : PySem.W.keepIn K (.ref (T.cA 0)) = true
  k1 : PySem.W.keepIn K (.ref (T.cA 1)) = true
  k2 : PySem.W.keepIn K (.ref (T.cA 2)) = true
  len5 : Meth K (T.cA 5) "__len__" (ad 2)
  me_c20m1 : Meth K (T.cA 5) "near" (ad 20)
  me_c20m2 : Meth K (T.cA 5) "is_tied" (ad 31)
  mk5 : L2.Mk K (T.cA 5) (ad 12)
  n_GREATEST_COLOUR : mg "GREATEST_COLOUR" = some (cv 4)
  n_InvalidNumber : mg "InvalidNumber" = some (.ref (T.cA 3))
  n_InvalidOperation : mg "InvalidOperation" = some (.ref (T.cA 2))
  n_InvalidRow : mg "InvalidRow" = some (.ref (T.cA 1))
  n_InvalidWeb : mg "InvalidWeb" = some (.ref (T.cA 0))
  n_LEAST_COLOUR : mg "LEAST_COLOUR" = some (cv 3)
  n_MOST_PLACES : mg "MOST_PLACES" = some (cv 1)
  n_MOST_POINTS : mg "MOST_POINTS" = some (cv 0)
  n_PAIRS : mg "PAIRS" = some (cv 2)
  n_TooMany : mg "TooMany" = some (.ref (T.cA 4))
  n_Web : mg "Web" = some (.ref (T.cA 5))
  n__law_met : mg "_law_met" = some (.ref (ad 36))
  n__law_right : mg "_law_right" = some (.ref (ad 32))
  n__law_wb_pot : mg "_law_wb_pot" = some (.ref (ad 28))
  n__law_wb_toss : mg "_law_wb_toss" = some (.ref (ad 29))
  n__law_wb_turned : mg "_law_wb_turned" = some (.ref (ad 30))
  n_are_between : mg "are_between" = some (.ref (ad 1))
  n_are_colours : mg "are_colours" = some (.ref (ad 4))
  n_are_like : mg "are_like" = some (.ref (ad 27))
  n_are_ties : mg "are_ties" = some (.ref (ad 5))
  n_atom_at : mg "atom_at" = some (.ref (ad 25))
  n_atom_of : mg "atom_of" = some (.ref (ad 26))
  n_beside : mg "beside" = some (.ref (ad 18))
  n_check_both : mg "check_both" = some (.ref (ad 17))
  n_check_point : mg "check_point" = some (.ref (ad 8))
  n_check_row : mg "check_row" = some (.ref (ad 10))
  n_check_web : mg "check_web" = some (.ref (ad 7))
  n_is_ascending : mg "is_ascending" = some (.ref (ad 3))
  n_is_between : mg "is_between" = some (.ref (ad 0))
  n_is_lot : mg "is_lot" = some (.ref (ad 11))
  n_is_row : mg "is_row" = some (.ref (ad 24))
  n_is_row_of : mg "is_row_of" = some (.ref (ad 9))
  n_joined : mg "joined" = some (.ref (ad 19))
  n_near_points : mg "near_points" = some (.ref (ad 6))
  n_opposite : mg "opposite" = some (.ref (ad 21))
  n_part : mg "part" = some (.ref (ad 13))
  n_piece_with : mg "piece_with" = some (.ref (ad 22))
  n_pieces : mg "pieces" = some (.ref (ad 23))
  n_recoloured : mg "recoloured" = some (.ref (ad 15))
  n_renamed : mg "renamed" = some (.ref (ad 14))
  n_ties_beside : mg "ties_beside" = some (.ref (ad 16))
  na5__near : NoAttr K (T.cA 5) "_near"
  na5_colours : NoAttr K (T.cA 5) "colours"
  na5_degrees : NoAttr K (T.cA 5) "degrees"
  na5_ties : NoAttr K (T.cA 5) "ties"
  o3 : OexC K (T.cA 3)
  o4 : OexC K (T.cA 4)
  ok_i3 : FnOk P w K mg base (L2.CX P w) 2 (ad 41) (fd 41) ["self", "given"] (spI (T.cA 3) "given")
  ok_i4 : FnOk P w K mg base (L2.CX P w) 2 (ad 42) (fd 42) ["self", "most"] (spI (T.cA 4) "most")
  rs0 : ∀ {X : Cx}, X.K = K → Raises X (.ref (T.cA 0))
  rs1 : ∀ {X : Cx}, X.K = K → Raises X (.ref (T.cA 1))
  rs2 : ∀ {X : Cx}, X.K = K → Raises X (.ref (T.cA 2))
  t3 : PySem.W.typeIn K (.ref (ad 41)) = some (.type "function")
  t4 : PySem.W.typeIn K (.ref (ad 42)) = some (.type "function")
  tb : T.tb = [(ad 38, (("_law_right" : Str) ++ ".<locals>.") ++ "<lambda>"), (ad 40, (("law" : Str) ++ ".<locals>.") ++ "<lambda>")]
  tne : ad 38 ≠ ad 40
  tyo : TyOwn T iOwn
  v_GREATEST_COLOUR : RelV (.int (9)) (cv 4)
  v_LEAST_COLOUR : RelV (.int (-1)) (cv 3)
  v_MOST_PLACES : RelV (.int (4)) (cv 1)
  v_MOST_POINTS : RelV (.int (40)) (cv 0)
  v_PAIRS : ∃ v, RelV v (cv 2) ∧ ∀ av r H, RV T av r H (.tup [(.tup []), (.tup []), (.tup [(.tup [(.int (0)), (.int (1))])]), (.tup [(.tup [(.int (0)), (.int (1))]), (.tup [(.int (0)), (.int (2))]), (.tup [(.int (1)), (.int (2))])]), (.tup [(.tup [(.int (0)), (.int (1))]), (.tup [(.int (0)), (.int (2))]), (.tup [(.int (0)), (.int (3))]), (.tup [(.int (1)), (.int (2))]), (.tup [(.int (1)), (.int (3))]), (.tup [(.int (2)), (.int (3))])])]) v
  x0 : PySem.W.excIn K (T.cA 0) [.type "ValueError", .type "Exception", .type "BaseException", .type "object"] "ValueError.__new__" = true
  x1 : PySem.W.excIn K (T.cA 1) [.type "ValueError", .type "Exception", .type "BaseException", .type "object"] "ValueError.__new__" = true
  x2 : PySem.W.excIn K (T.cA 2) [.type "ValueError", .type "Exception", .type "BaseException", .type "object"] "ValueError.__new__" = true

section
variable {P : Program} {w : World} {K : PySem.W.Frag} {mg : Str → Option Value} {base : Heap} {T : Tx} {ad : Nat → Addr} {fd : Nat → FuncData} {cv : Nat → Value} {bm : List Value}
theorem ok_d8 (Z : Fx P w K mg base T ad fd cv bm) : FnOk P w K mg base (L2.CX P w) 1 (ad 0) (fd 0) ["value", "low", "high"] (spM T 3 (mFn 3 m_d8)) :=
  fn_mk Z.f_d8 sc_d8 fun cdv A outer s H E hr => (sb_one (ss_ret (se_and (se_tyEq (g := 2) Z.k hr.u1 Z.tyo (by rfl) Z.b_type (by rfl) (by rfl) Z.b_int (by rfl) (se_var 0)) (se_one (se_chain om_leI om_leI (se_var 1) (se_var 0) (se_var 2))))))
theorem ok_d9 (Z : Fx P w K mg base T ad fd cv bm) : FnOk P w K mg base (L2.CX P w) 1 (ad 1) (fd 1) ["value", "low", "high"] (spM T 3 (mFn 4 m_d9)) :=
  fn_mk Z.f_d9 sc_d9 fun cdv A outer s H E hr => (sb_cons (ss_if (st_not (st_val (se_callB (cm_isi Z.k (Z.isi rfl)) (by rfl) Z.b_isinstance (by rfl) (sa_cons (se_var 0) (sa_cons (se_glob 2 (by rfl) Z.b_tuple (by rfl) (by rw [Z.g_tuple]; rfl)) sa_nil)))))
  (sb_one (ss_ret se_bl))
  sb_nil)
  (sb_cons (ss_for (passes_of rfl) rfl (si_pick (si_tup Z.k (se_var 0)) (si_lst (se_var 0))) (sg_name 3 sc_d9.nd rfl (by first | exact Or.inl rfl | exact Or.inr rfl))
  (sb_one (ss_if ((sw_or (st_tyNe (g := 2) Z.k hr.u1 Z.tyo (by rfl) Z.b_type (by rfl) (by rfl) Z.b_int (by rfl) (se_var 3)) (sw_or1 (st_not (st_chain om_leI om_leI (se_var 1) (se_var 3) (se_var 2)))))).t
  (sb_one (ss_ret se_bl))
  sb_nil)))
  (sb_one (ss_ret se_bl))))
theorem ok_c20m3 (Z : Fx P w K mg base T ad fd cv bm) : FnOk P w K mg base (L2.CX P w) 1 (ad 2) (fd 2) ["self"] (spM T 1 (mFn 1 m_c20m3)) :=
  fn_mk Z.f_c20m3 sc_c20m3 fun cdv A outer s H E hr => (sb_one (ss_ret (se_callB (cm_len Z.k) (by rfl) Z.b_len (by rfl) (sa_cons (se_fld 5 0 Z.cls5 Z.na5_colours (by rw [Z.cN]; decide) (by rw [Z.cN]; rfl) (se_var 0)) sa_nil))))
theorem ok_d10 (Z : Fx P w K mg base T ad fd cv bm) : FnOk P w K mg base (L2.CX P w) 3 (ad 3) (fd 3) ["members"] (spM T 1 (mFn 2 m_d10)) :=
  fn_mk Z.f_d10 sc_d10 fun cdv A outer s H E hr => (sb_cons (ss_for (passes_of rfl) rfl (si_range2 (by rfl) Z.b_range (sa_cons se_int (sa_cons (se_callB ((cm_len Z.k).or (cm_lenI (by rw [Z.cN]; decide) Z.len5 ((ok_c20m3 Z).mono (by decide)) hr Z.d_c20m3)) (by rfl) Z.b_len (by rfl) (sa_cons (se_var 0) sa_nil)) sa_nil))) (sg_name 1 sc_d10.nd rfl (by first | exact Or.inl rfl | exact Or.inr rfl))
  (sb_one (ss_if (st_not (st_cmp (om_ltI.or (om_ltT Z.k hr.u0)) (se_pick (se_ix (im_seq Z.k) (se_var 0) (se_bin om_subI (se_var 1) se_int)) (se_get (hr.u1) (se_var 0) (se_bin om_subI (se_var 1) se_int) (fun _ _ => rfl))) (se_pick (se_ix (im_seq Z.k) (se_var 0) (se_var 1)) (se_get (hr.u1) (se_var 0) (se_var 1) (fun _ _ => rfl))) (nomark _)))
  (sb_one (ss_ret se_bl))
  sb_nil)))
  (sb_one (ss_ret se_bl)))
theorem ok_d17 (Z : Fx P w K mg base T ad fd cv bm) : FnOk P w K mg base (L2.CX P w) 2 (ad 4) (fd 4) ["value"] (spM T 1 (mFn 1 m_d17)) :=
  fn_mk Z.f_d17 sc_d17 fun cdv A outer s H E hr => (sb_one (ss_ret (se_callP ((ok_d9 Z).mono (by decide)) hr (by rfl) Z.n_are_between Z.f_d9.kp Z.d_d9 (takes_of rfl rfl rfl rfl) (sa_cons (se_var 0) (sa_cons (se_gint (by rfl) Z.n_LEAST_COLOUR Z.v_LEAST_COLOUR) (sa_cons (se_gint (by rfl) Z.n_GREATEST_COLOUR Z.v_GREATEST_COLOUR) sa_nil))))))
theorem ok_d18 (Z : Fx P w K mg base T ad fd cv bm) : FnOk P w K mg base (L2.CX P w) 4 (ad 5) (fd 5) ["value", "many"] (spM T 2 (mFn 3 m_d18)) :=
  fn_mk Z.f_d18 sc_d18 fun cdv A outer s H E hr => (sb_cons (ss_if (st_not (st_val (se_callB (cm_isi Z.k (Z.isi rfl)) (by rfl) Z.b_isinstance (by rfl) (sa_cons (se_var 0) (sa_cons (se_glob 2 (by rfl) Z.b_tuple (by rfl) (by rw [Z.g_tuple]; rfl)) sa_nil)))))
  (sb_one (ss_ret se_bl))
  sb_nil)
  (sb_cons (ss_for (passes_of rfl) rfl (si_pick (si_tup Z.k (se_var 0)) (si_lst (se_var 0))) (sg_name 2 sc_d18.nd rfl (by first | exact Or.inl rfl | exact Or.inr rfl))
  (sb_one (ss_if ((sw_or (st_not (st_val (se_callP ((ok_d9 Z).mono (by decide)) hr (by rfl) Z.n_are_between Z.f_d9.kp Z.d_d9 (takes_of rfl rfl rfl rfl) (sa_cons (se_var 2) (sa_cons se_int (sa_cons (se_bin om_subI (se_var 1) se_int) sa_nil)))))) (sw_or (st_cmp (om_neD Z.k hr.u64) (se_callB ((cm_len Z.k).or (cm_lenI (by rw [Z.cN]; decide) Z.len5 ((ok_c20m3 Z).mono (by decide)) hr Z.d_c20m3)) (by rfl) Z.b_len (by rfl) (sa_cons (se_var 2) sa_nil)) se_int (nomark _)) (sw_or1 (st_cmp om_geI (se_pick (se_ix (im_seq Z.k) (se_var 2) se_int) (se_get (hr.u1) (se_var 2) se_int (fun _ _ => rfl))) (se_pick (se_ix (im_seq Z.k) (se_var 2) se_int) (se_get (hr.u1) (se_var 2) se_int (fun _ _ => rfl))) (nomark _)))))).t
  (sb_one (ss_ret se_bl))
  sb_nil)))
  (sb_one (ss_ret (se_callP ((ok_d10 Z).mono (by decide)) hr (by rfl) Z.n_is_ascending Z.f_d10.kp Z.d_d10 (takes_of rfl rfl rfl rfl) (sa_cons (se_var 0) sa_nil))))))
theorem ok_d19 (Z : Fx P w K mg base T ad fd cv bm) : FnOk P w K mg base (L2.CX P w) 1 (ad 6) (fd 6) ["many", "ties"] (spM T 2 (mFn 7 m_d19)) :=
  fn_mk Z.f_d19 sc_d19 fun cdv A outer s H E hr => (sb_cons (lc_stmt (i := 2) (own := [("_", 5)]) set_lst rfl sc_d19.nd rfl rfl (sw_true rfl rfl rfl (by decide +kernel)) (si_range1 (by rfl) Z.b_range (sa_cons (se_var 0) sa_nil)) (show blkC ["many", "ties", "near", "here", "there", "_", "points"] (defScope s_d19) _ _ = true from by decide +kernel) (fun s H C cl fp => (sg_name 5 sc_d19.nd rfl (by first | exact Or.inl rfl | exact Or.inr rfl))) (fun s H C cl fp => sts_nil) (fun s H C cl fp => (se_new (sf_lst sa_nil))) (by decide))
  (sb_cons (ss_for (passes_of rfl) rfl (si_pick (si_tup Z.k (se_var 1)) (si_lst (se_var 1))) (sg_tup Z.k rfl (sgs_cons (sg_name 3 sc_d19.nd rfl (by first | exact Or.inl rfl | exact Or.inr rfl)) (sgs_cons (sg_name 4 sc_d19.nd rfl (by first | exact Or.inl rfl | exact Or.inr rfl)) sgs_nil)))
  (sb_cons (ss_expr (se_bm PySem.F.plainAttrs_list PySem.F.slot_list_append PySem.F.type_list_append qt_append ty_list (se_pick (se_ix (im_seq Z.k) (se_var 2) (se_var 3)) (se_get (hr.u1) (se_var 2) (se_var 3) (fun _ _ => rfl))) (sa_cons (se_var 4) sa_nil)))
  (sb_one (ss_expr (se_bm PySem.F.plainAttrs_list PySem.F.slot_list_append PySem.F.type_list_append qt_append ty_list (se_pick (se_ix (im_seq Z.k) (se_var 2) (se_var 4)) (se_get (hr.u1) (se_var 2) (se_var 4) (fun _ _ => rfl))) (sa_cons (se_var 3) sa_nil))))))
  (sb_one (ss_ret (se_callTy (cm_tuple Z.k) (by rfl) Z.b_tuple (by rfl) (sa_cons (se_lst (sf_lc (own := [("points", 6)]) rfl sc_d19.nd (si_pick (si_tup Z.k (se_var 2)) (si_lst (se_var 2))) (show blkC ["many", "ties", "near", "here", "there", "_", "points"] (defScope s_d19) _ _ = true from by decide +kernel) (fun s H C cl fp => (sg_name 6 sc_d19.nd rfl (by first | exact Or.inl rfl | exact Or.inr rfl))) (fun s H C cl fp => sts_nil) (fun s H C cl fp => (se_callTy (cm_tuple Z.k) (by rfl) Z.b_tuple (by rfl) (sa_cons (se_lst (sf_callB ((cf_sortI Z.k).or (cf_sortDI rfl)) (by rfl) Z.b_sorted (by rfl) (sa_cons (se_var 6) sa_nil))) sa_nil))) (by decide))) sa_nil))))))
theorem ok_d21 (Z : Fx P w K mg base T ad fd cv bm) : FnOk P w K mg base (L2.CX P w) 1 (ad 7) (fd 7) ["web"] (spM T 1 (mFn 1 m_d21)) :=
  fn_mk Z.f_d21 sc_d21 fun cdv A outer s H E hr => (sb_one (ss_if (st_not (st_val (se_callB (cm_isi Z.k (Z.isi rfl)) (by rfl) Z.b_isinstance (by rfl) (sa_cons (se_var 0) (sa_cons (se_glo 12 (by rfl) Z.n_Web (by rw [Z.g_Web]; rfl)) sa_nil)))))
  (sb_one (ss_raise 0 rfl (takes_of rfl rfl rfl rfl) PySem.F.excBase_ValueError Z.x0 Z.n_InvalidWeb Z.k0 (Z.rs0 rfl) (by rfl)))
  sb_nil))
theorem ok_d22 (Z : Fx P w K mg base T ad fd cv bm) : FnOk P w K mg base (L2.CX P w) 4 (ad 8) (fd 8) ["web", "point"] (spM T 2 (mFn 2 m_d22)) :=
  fn_mk Z.f_d22 sc_d22 fun cdv A outer s H E hr => (sb_one (ss_if (st_not (st_val (se_callP ((ok_d8 Z).mono (by decide)) hr (by rfl) Z.n_is_between Z.f_d8.kp Z.d_d8 (takes_of rfl rfl rfl rfl) (sa_cons (se_var 1) (sa_cons se_int (sa_cons (se_bin om_subI (se_callB ((cm_len Z.k).or (cm_lenI (by rw [Z.cN]; decide) Z.len5 ((ok_c20m3 Z).mono (by decide)) hr Z.d_c20m3)) (by rfl) Z.b_len (by rfl) (sa_cons (se_var 0) sa_nil)) se_int) sa_nil))))))
  (sb_one (ss_raise1 3 rfl (takes_of rfl rfl rfl rfl) (by rw [Z.cN]; rfl) Z.o3 Z.i3 Z.t3 (Z.ok_i3.mono (by decide)) hr Z.d_i3 (passes_call (W := WN E) (takes_of rfl rfl rfl rfl) (fun _ _ _ _ h => h.elim)) (by rfl) Z.n_InvalidNumber (se_var 1)))
  sb_nil))
theorem ok_d23 (Z : Fx P w K mg base T ad fd cv bm) : FnOk P w K mg base (L2.CX P w) 3 (ad 9) (fd 9) ["web", "value"] (spM T 2 (mFn 2 m_d23)) :=
  fn_mk Z.f_d23 sc_d23 fun cdv A outer s H E hr => (sb_one (ss_ret (se_and (se_callP ((ok_d9 Z).mono (by decide)) hr (by rfl) Z.n_are_between Z.f_d9.kp Z.d_d9 (takes_of rfl rfl rfl rfl) (sa_cons (se_var 1) (sa_cons se_int (sa_cons (se_bin om_subI (se_callB ((cm_len Z.k).or (cm_lenI (by rw [Z.cN]; decide) Z.len5 ((ok_c20m3 Z).mono (by decide)) hr Z.d_c20m3)) (by rfl) Z.b_len (by rfl) (sa_cons (se_var 0) sa_nil)) se_int) sa_nil)))) (se_one (se_cmp om_leI (se_callB ((cm_len Z.k).or (cm_lenI (by rw [Z.cN]; decide) Z.len5 ((ok_c20m3 Z).mono (by decide)) hr Z.d_c20m3)) (by rfl) Z.b_len (by rfl) (sa_cons (se_var 1) sa_nil)) (se_gint (by rfl) Z.n_MOST_PLACES Z.v_MOST_PLACES) (nomark _))))))
theorem ok_d24 (Z : Fx P w K mg base T ad fd cv bm) : FnOk P w K mg base (L2.CX P w) 4 (ad 10) (fd 10) ["web", "row"] (spM T 2 (mFn 2 m_d24)) :=
  fn_mk Z.f_d24 sc_d24 fun cdv A outer s H E hr => (sb_one (ss_if (st_not (st_val (se_callP ((ok_d23 Z).mono (by decide)) hr (by rfl) Z.n_is_row_of Z.f_d23.kp Z.d_d23 (takes_of rfl rfl rfl rfl) (sa_cons (se_var 0) (sa_cons (se_var 1) sa_nil)))))
  (sb_one (ss_raise 1 rfl (takes_of rfl rfl rfl rfl) PySem.F.excBase_ValueError Z.x1 Z.n_InvalidRow Z.k1 (Z.rs1 rfl) (by rfl)))
  sb_nil))
theorem ok_d25 (Z : Fx P w K mg base T ad fd cv bm) : FnOk P w K mg base (L2.CX P w) 4 (ad 11) (fd 11) ["web", "value"] (spM T 2 (mFn 2 m_d25)) :=
  fn_mk Z.f_d25 sc_d25 fun cdv A outer s H E hr => (sb_one (ss_ret (se_and (se_callP ((ok_d9 Z).mono (by decide)) hr (by rfl) Z.n_are_between Z.f_d9.kp Z.d_d9 (takes_of rfl rfl rfl rfl) (sa_cons (se_var 1) (sa_cons se_int (sa_cons (se_bin om_subI (se_callB ((cm_len Z.k).or (cm_lenI (by rw [Z.cN]; decide) Z.len5 ((ok_c20m3 Z).mono (by decide)) hr Z.d_c20m3)) (by rfl) Z.b_len (by rfl) (sa_cons (se_var 0) sa_nil)) se_int) sa_nil)))) (se_one (se_callP ((ok_d10 Z).mono (by decide)) hr (by rfl) Z.n_is_ascending Z.f_d10.kp Z.d_d10 (takes_of rfl rfl rfl rfl) (sa_cons (se_var 1) sa_nil))))))
theorem ok_c20m0 (Z : Fx P w K mg base T ad fd cv bm) : FnOk P w K mg base (L2.CX P w) 5 (ad 12) (fd 12) ["self", "colours", "ties"] (spM T 3 (mFn 4 m_c20m0)) :=
  fn_mk Z.f_c20m0 sc_c20m0 fun cdv A outer s H E hr => (sb_cons (ss_if ((sw_or (st_not (st_val (se_callP ((ok_d17 Z).mono (by decide)) hr (by rfl) Z.n_are_colours Z.f_d17.kp Z.d_d17 (takes_of rfl rfl rfl rfl) (sa_cons (se_var 1) sa_nil)))) (sw_or1 (st_cmp om_gtI (se_callB ((cm_len Z.k).or (cm_lenI (by rw [Z.cN]; decide) Z.len5 ((ok_c20m3 Z).mono (by decide)) hr Z.d_c20m3)) (by rfl) Z.b_len (by rfl) (sa_cons (se_var 1) sa_nil)) (se_gint (by rfl) Z.n_MOST_POINTS Z.v_MOST_POINTS) (nomark _))))).t
  (sb_one (ss_raise 0 rfl (takes_of rfl rfl rfl rfl) PySem.F.excBase_ValueError Z.x0 Z.n_InvalidWeb Z.k0 (Z.rs0 rfl) (by rfl)))
  sb_nil)
  (sb_cons (ss_if (st_not (st_val (se_callP ((ok_d18 Z).mono (by decide)) hr (by rfl) Z.n_are_ties Z.f_d18.kp Z.d_d18 (takes_of rfl rfl rfl rfl) (sa_cons (se_var 2) (sa_cons (se_callB ((cm_len Z.k).or (cm_lenI (by rw [Z.cN]; decide) Z.len5 ((ok_c20m3 Z).mono (by decide)) hr Z.d_c20m3)) (by rfl) Z.b_len (by rfl) (sa_cons (se_var 1) sa_nil)) sa_nil)))))
  (sb_one (ss_raise 0 rfl (takes_of rfl rfl rfl rfl) PySem.F.excBase_ValueError Z.x0 Z.n_InvalidWeb Z.k0 (Z.rs0 rfl) (by rfl)))
  sb_nil)
  (sb_cons (ss_fld 5 0 Z.cls5 Z.na5_colours (by rw [Z.cN]; decide) (by rw [Z.cN]; decide) (by rw [Z.cN]; rfl) (se_var 0) (se_var 1))
  (sb_cons (ss_fld 5 1 Z.cls5 Z.na5_ties (by rw [Z.cN]; decide) (by rw [Z.cN]; decide) (by rw [Z.cN]; rfl) (se_var 0) (se_var 2))
  (sb_cons (ss_fld 5 2 Z.cls5 Z.na5__near (by rw [Z.cN]; decide) (by rw [Z.cN]; decide) (by rw [Z.cN]; rfl) (se_var 0) (se_callP ((ok_d19 Z).mono (by decide)) hr (by rfl) Z.n_near_points Z.f_d19.kp Z.d_d19 (takes_of rfl rfl rfl rfl) (sa_cons (se_callB ((cm_len Z.k).or (cm_lenI (by rw [Z.cN]; decide) Z.len5 ((ok_c20m3 Z).mono (by decide)) hr Z.d_c20m3)) (by rfl) Z.b_len (by rfl) (sa_cons (se_var 1) sa_nil)) (sa_cons (se_var 2) sa_nil))))
  (sb_one (ss_fld 5 3 Z.cls5 Z.na5_degrees (by rw [Z.cN]; decide) (by rw [Z.cN]; decide) (by rw [Z.cN]; rfl) (se_var 0) (se_callTy (cm_tuple Z.k) (by rfl) Z.b_tuple (by rfl) (sa_cons (se_lst (sf_lc (own := [("points", 3)]) rfl sc_c20m0.nd (si_pick (si_tup Z.k (se_fld 5 2 Z.cls5 Z.na5__near (by rw [Z.cN]; decide) (by rw [Z.cN]; rfl) (se_var 0))) (si_lst (se_fld 5 2 Z.cls5 Z.na5__near (by rw [Z.cN]; decide) (by rw [Z.cN]; rfl) (se_var 0)))) (show blkC ["self", "colours", "ties", "points"] (defScope s_c20m0) _ _ = true from by decide +kernel) (fun s H C cl fp => (sg_name 3 sc_c20m0.nd rfl (by first | exact Or.inl rfl | exact Or.inr rfl))) (fun s H C cl fp => sts_nil) (fun s H C cl fp => (se_callB ((cm_len Z.k).or (cm_lenI (by rw [Z.cN]; decide) Z.len5 ((ok_c20m3 Z).mono (by decide)) hr Z.d_c20m3)) (by rfl) Z.b_len (by rfl) (sa_cons (se_var 3) sa_nil))) (by decide))) sa_nil)))))))))
theorem ok_d26 (Z : Fx P w K mg base T ad fd cv bm) : FnOk P w K mg base (L2.CX P w) 7 (ad 13) (fd 13) ["web", "points"] (spM T 2 (mFn 8 m_d26)) :=
  fn_mk Z.f_d26 sc_d26 fun cdv A outer s H E hr => (sb_cons (ss_expr (se_callP ((ok_d21 Z).mono (by decide)) hr (by rfl) Z.n_check_web Z.f_d21.kp Z.d_d21 (takes_of rfl rfl rfl rfl) (sa_cons (se_var 0) sa_nil)))
  (sb_cons (ss_if (st_not (st_val (se_callP ((ok_d25 Z).mono (by decide)) hr (by rfl) Z.n_is_lot Z.f_d25.kp Z.d_d25 (takes_of rfl rfl rfl rfl) (sa_cons (se_var 0) (sa_cons (se_var 1) sa_nil)))))
  (sb_one (ss_raise 2 rfl (takes_of rfl rfl rfl rfl) PySem.F.excBase_ValueError Z.x2 Z.n_InvalidOperation Z.k2 (Z.rs2 rfl) (by rfl)))
  sb_nil)
  (sb_cons (ss_set 2 sc_d26.nd rfl (by first | exact Or.inl rfl | exact Or.inr rfl) (se_dct (sd_dc (own := [("at", 4), ("point", 5)]) rfl sc_d26.nd (si_pick (si_enum (by rfl) Z.b_enumerate (sa_cons (se_var 1) sa_nil)) (si_enumT Z.k (by rfl) Z.b_enumerate (sa_cons (se_var 1) sa_nil))) (show blkC ["web", "points", "named", "ties", "at", "point", "here", "there"] (defScope s_d26) _ _ = true from by decide +kernel) (fun s H C cl fp => (sg_tup Z.k rfl (sgs_cons (sg_name 4 sc_d26.nd rfl (by first | exact Or.inl rfl | exact Or.inr rfl)) (sgs_cons (sg_name 5 sc_d26.nd rfl (by first | exact Or.inl rfl | exact Or.inr rfl)) sgs_nil)))) (fun s H C cl fp => sts_nil) (fun s H C cl fp => (se_var 5)) (fun s H C cl fp => (se_var 4)) (by decide))))
  (sb_cons (lc_stmt (i := 3) (own := [("here", 6), ("there", 7)]) set_lst rfl sc_d26.nd rfl rfl (sw_true rfl rfl rfl (by decide +kernel)) (si_pick (si_tup Z.k (se_fld 5 1 Z.cls5 Z.na5_ties (by rw [Z.cN]; decide) (by rw [Z.cN]; rfl) (se_var 0))) (si_lst (se_fld 5 1 Z.cls5 Z.na5_ties (by rw [Z.cN]; decide) (by rw [Z.cN]; rfl) (se_var 0)))) (show blkC ["web", "points", "named", "ties", "at", "point", "here", "there"] (defScope s_d26) _ _ = true from by decide +kernel) (fun s H C cl fp => (sg_tup Z.k rfl (sgs_cons (sg_name 6 sc_d26.nd rfl (by first | exact Or.inl rfl | exact Or.inr rfl)) (sgs_cons (sg_name 7 sc_d26.nd rfl (by first | exact Or.inl rfl | exact Or.inr rfl)) sgs_nil)))) (fun s H C cl fp => (sts_one ((sw_and (st_pick (st_inD hr.u1 (se_var 6) (se_var 2) (by rfl)) (st_cmp (om_in Z.k hr.u65) (se_var 6) (se_var 2) (by rfl))) (sw_and1 (st_pick (st_inD hr.u1 (se_var 7) (se_var 2) (by rfl)) (st_cmp (om_in Z.k hr.u65) (se_var 7) (se_var 2) (by rfl)))))).t)) (fun s H C cl fp => (se_tup (sa_cons (se_pick (se_ix (im_seq Z.k) (se_var 2) (se_var 6)) (se_get (hr.u1) (se_var 2) (se_var 6) (fun _ _ => rfl))) (sa_cons (se_pick (se_ix (im_seq Z.k) (se_var 2) (se_var 7)) (se_get (hr.u1) (se_var 2) (se_var 7) (fun _ _ => rfl))) sa_nil)))) (by decide))
  (sb_one (ss_ret (se_make (cl := 5) (nf := 4) (by rw [Z.cN]; rfl) Z.mk5 ((ok_c20m0 Z).mono (by decide)) hr (by rfl) Z.n_Web Z.d_c20m0 (takes_of rfl rfl rfl rfl) (sa_cons (se_callTy (cm_tuple Z.k) (by rfl) Z.b_tuple (by rfl) (sa_cons (se_lst (sf_lc (own := [("point", 5)]) rfl sc_d26.nd (si_pick (si_tup Z.k (se_var 1)) (si_lst (se_var 1))) (show blkC ["web", "points", "named", "ties", "at", "point", "here", "there"] (defScope s_d26) _ _ = true from by decide +kernel) (fun s H C cl fp => (sg_name 5 sc_d26.nd rfl (by first | exact Or.inl rfl | exact Or.inr rfl))) (fun s H C cl fp => sts_nil) (fun s H C cl fp => (se_pick (se_ix (im_seq Z.k) (se_fld 5 0 Z.cls5 Z.na5_colours (by rw [Z.cN]; decide) (by rw [Z.cN]; rfl) (se_var 0)) (se_var 5)) (se_get (hr.u1) (se_fld 5 0 Z.cls5 Z.na5_colours (by rw [Z.cN]; decide) (by rw [Z.cN]; rfl) (se_var 0)) (se_var 5) (fun _ _ => rfl)))) (by decide))) sa_nil)) (sa_cons (se_callTy (cm_tuple Z.k) (by rfl) Z.b_tuple (by rfl) (sa_cons (se_var 3) sa_nil)) sa_nil)))))))))
theorem ok_d27 (Z : Fx P w K mg base T ad fd cv bm) : FnOk P w K mg base (L2.CX P w) 7 (ad 14) (fd 14) ["web", "names"] (spM T 2 (mFn 8 m_d27)) :=
  fn_mk Z.f_d27 sc_d27 fun cdv A outer s H E hr => (sb_cons (ss_expr (se_callP ((ok_d21 Z).mono (by decide)) hr (by rfl) Z.n_check_web Z.f_d21.kp Z.d_d21 (takes_of rfl rfl rfl rfl) (sa_cons (se_var 0) sa_nil)))
  (sb_cons (ss_set 2 sc_d27.nd rfl (by first | exact Or.inl rfl | exact Or.inr rfl) (se_callB ((cm_len Z.k).or (cm_lenI (by rw [Z.cN]; decide) Z.len5 ((ok_c20m3 Z).mono (by decide)) hr Z.d_c20m3)) (by rfl) Z.b_len (by rfl) (sa_cons (se_var 0) sa_nil)))
  (sb_cons (ss_if ((sw_or (st_not (st_val (se_callP ((ok_d9 Z).mono (by decide)) hr (by rfl) Z.n_are_between Z.f_d9.kp Z.d_d9 (takes_of rfl rfl rfl rfl) (sa_cons (se_var 1) (sa_cons se_int (sa_cons (se_bin om_subI (se_var 2) se_int) sa_nil)))))) (sw_or1 (st_cmp (om_neD Z.k hr.u64) (se_lst (sf_callB ((cf_sortI Z.k).or (cf_sortDI rfl)) (by rfl) Z.b_sorted (by rfl) (sa_cons (se_var 1) sa_nil))) (se_lst (sf_listRg rfl (by rfl) Z.b_list (by rfl) Z.b_range (se_var 2))) (nomark _))))).t
  (sb_one (ss_raise 2 rfl (takes_of rfl rfl rfl rfl) PySem.F.excBase_ValueError Z.x2 Z.n_InvalidOperation Z.k2 (Z.rs2 rfl) (by rfl)))
  sb_nil)
  (sb_cons (ss_set 3 sc_d27.nd rfl (by first | exact Or.inl rfl | exact Or.inr rfl) (se_new (sf_rep (sf_lst (sa_cons se_int sa_nil)) (se_var 2))))
  (sb_cons (ss_for (passes_of rfl) rfl (si_range1 (by rfl) Z.b_range (sa_cons (se_var 2) sa_nil)) (sg_name 4 sc_d27.nd rfl (by first | exact Or.inl rfl | exact Or.inr rfl))
  (sb_one (ss_pick (ss_asg (se_pick (se_ix (im_seq Z.k) (se_fld 5 0 Z.cls5 Z.na5_colours (by rw [Z.cN]; decide) (by rw [Z.cN]; rfl) (se_var 0)) (se_var 4)) (se_get (hr.u1) (se_fld 5 0 Z.cls5 Z.na5_colours (by rw [Z.cN]; decide) (by rw [Z.cN]; rfl) (se_var 0)) (se_var 4) (fun _ _ => rfl))) (sg_subL (W := WN E) (se_var 3) (se_pick (se_ix (im_seq Z.k) (se_var 1) (se_var 4)) (se_get (hr.u1) (se_var 1) (se_var 4) (fun _ _ => rfl))))) (ss_put hr.u1 (se_var 3) (se_pick (se_ix (im_seq Z.k) (se_var 1) (se_var 4)) (se_get (hr.u1) (se_var 1) (se_var 4) (fun _ _ => rfl))) (se_pick (se_ix (im_seq Z.k) (se_fld 5 0 Z.cls5 Z.na5_colours (by rw [Z.cN]; decide) (by rw [Z.cN]; rfl) (se_var 0)) (se_var 4)) (se_get (hr.u1) (se_fld 5 0 Z.cls5 Z.na5_colours (by rw [Z.cN]; decide) (by rw [Z.cN]; rfl) (se_var 0)) (se_var 4) (fun _ _ => rfl)))))))
  (sb_cons (lc_stmt (i := 5) (own := [("here", 6), ("there", 7)]) set_lst rfl sc_d27.nd rfl rfl (sw_true rfl rfl rfl (by decide +kernel)) (si_pick (si_tup Z.k (se_fld 5 1 Z.cls5 Z.na5_ties (by rw [Z.cN]; decide) (by rw [Z.cN]; rfl) (se_var 0))) (si_lst (se_fld 5 1 Z.cls5 Z.na5_ties (by rw [Z.cN]; decide) (by rw [Z.cN]; rfl) (se_var 0)))) (show blkC ["web", "names", "many", "colours", "point", "ties", "here", "there"] (defScope s_d27) _ _ = true from by decide +kernel) (fun s H C cl fp => (sg_tup Z.k rfl (sgs_cons (sg_name 6 sc_d27.nd rfl (by first | exact Or.inl rfl | exact Or.inr rfl)) (sgs_cons (sg_name 7 sc_d27.nd rfl (by first | exact Or.inl rfl | exact Or.inr rfl)) sgs_nil)))) (fun s H C cl fp => sts_nil) (fun s H C cl fp => (se_tup (sa_cons (se_callB (cm_min2 rfl) (by rfl) Z.b_min (by rfl) (sa_cons (se_pick (se_ix (im_seq Z.k) (se_var 1) (se_var 6)) (se_get (hr.u1) (se_var 1) (se_var 6) (fun _ _ => rfl))) (sa_cons (se_pick (se_ix (im_seq Z.k) (se_var 1) (se_var 7)) (se_get (hr.u1) (se_var 1) (se_var 7) (fun _ _ => rfl))) sa_nil))) (sa_cons (se_callB (cm_max2 rfl) (by rfl) Z.b_max (by rfl) (sa_cons (se_pick (se_ix (im_seq Z.k) (se_var 1) (se_var 6)) (se_get (hr.u1) (se_var 1) (se_var 6) (fun _ _ => rfl))) (sa_cons (se_pick (se_ix (im_seq Z.k) (se_var 1) (se_var 7)) (se_get (hr.u1) (se_var 1) (se_var 7) (fun _ _ => rfl))) sa_nil))) sa_nil)))) (by decide))
  (sb_one (ss_ret (se_make (cl := 5) (nf := 4) (by rw [Z.cN]; rfl) Z.mk5 ((ok_c20m0 Z).mono (by decide)) hr (by rfl) Z.n_Web Z.d_c20m0 (takes_of rfl rfl rfl rfl) (sa_cons (se_callTy (cm_tuple Z.k) (by rfl) Z.b_tuple (by rfl) (sa_cons (se_var 3) sa_nil)) (sa_cons (se_callTy (cm_tuple Z.k) (by rfl) Z.b_tuple (by rfl) (sa_cons (se_lst (sf_callB ((cf_sortI Z.k).or (cf_sortDI rfl)) (by rfl) Z.b_sorted (by rfl) (sa_cons (se_var 5) sa_nil))) sa_nil)) sa_nil)))))))))))
theorem ok_d28 (Z : Fx P w K mg base T ad fd cv bm) : FnOk P w K mg base (L2.CX P w) 7 (ad 15) (fd 15) ["web", "colours"] (spM T 2 (mFn 2 m_d28)) :=
  fn_mk Z.f_d28 sc_d28 fun cdv A outer s H E hr => (sb_cons (ss_expr (se_callP ((ok_d21 Z).mono (by decide)) hr (by rfl) Z.n_check_web Z.f_d21.kp Z.d_d21 (takes_of rfl rfl rfl rfl) (sa_cons (se_var 0) sa_nil)))
  (sb_cons (ss_if ((sw_or (st_not (st_val (se_callP ((ok_d17 Z).mono (by decide)) hr (by rfl) Z.n_are_colours Z.f_d17.kp Z.d_d17 (takes_of rfl rfl rfl rfl) (sa_cons (se_var 1) sa_nil)))) (sw_or1 (st_cmp (om_neD Z.k hr.u64) (se_callB ((cm_len Z.k).or (cm_lenI (by rw [Z.cN]; decide) Z.len5 ((ok_c20m3 Z).mono (by decide)) hr Z.d_c20m3)) (by rfl) Z.b_len (by rfl) (sa_cons (se_var 1) sa_nil)) (se_callB ((cm_len Z.k).or (cm_lenI (by rw [Z.cN]; decide) Z.len5 ((ok_c20m3 Z).mono (by decide)) hr Z.d_c20m3)) (by rfl) Z.b_len (by rfl) (sa_cons (se_var 0) sa_nil)) (nomark _))))).t
  (sb_one (ss_raise 2 rfl (takes_of rfl rfl rfl rfl) PySem.F.excBase_ValueError Z.x2 Z.n_InvalidOperation Z.k2 (Z.rs2 rfl) (by rfl)))
  sb_nil)
  (sb_one (ss_ret (se_make (cl := 5) (nf := 4) (by rw [Z.cN]; rfl) Z.mk5 ((ok_c20m0 Z).mono (by decide)) hr (by rfl) Z.n_Web Z.d_c20m0 (takes_of rfl rfl rfl rfl) (sa_cons (se_var 1) (sa_cons (se_fld 5 1 Z.cls5 Z.na5_ties (by rw [Z.cN]; decide) (by rw [Z.cN]; rfl) (se_var 0)) sa_nil)))))))
theorem ok_d29 (Z : Fx P w K mg base T ad fd cv bm) : FnOk P w K mg base (L2.CX P w) 3 (ad 16) (fd 16) ["one", "other"] (spM T 2 (mFn 5 m_d29)) :=
  fn_mk Z.f_d29 sc_d29 fun cdv A outer s H E hr => (sb_cons (ss_set 2 sc_d29.nd rfl (by first | exact Or.inl rfl | exact Or.inr rfl) (se_callB ((cm_len Z.k).or (cm_lenI (by rw [Z.cN]; decide) Z.len5 ((ok_c20m3 Z).mono (by decide)) hr Z.d_c20m3)) (by rfl) Z.b_len (by rfl) (sa_cons (se_var 0) sa_nil)))
  (sb_one (ss_ret (se_bin (om_add Z.k) (se_lst (sf_callTy ((cf_list Z.k).or (cf_listD rfl)) (by rfl) Z.b_list (by rfl) (sa_cons (se_fld 5 1 Z.cls5 Z.na5_ties (by rw [Z.cN]; decide) (by rw [Z.cN]; rfl) (se_var 0)) sa_nil))) (se_lst (sf_lc (own := [("here", 3), ("there", 4)]) rfl sc_d29.nd (si_pick (si_tup Z.k (se_fld 5 1 Z.cls5 Z.na5_ties (by rw [Z.cN]; decide) (by rw [Z.cN]; rfl) (se_var 1))) (si_lst (se_fld 5 1 Z.cls5 Z.na5_ties (by rw [Z.cN]; decide) (by rw [Z.cN]; rfl) (se_var 1)))) (show blkC ["one", "other", "many", "here", "there"] (defScope s_d29) _ _ = true from by decide +kernel) (fun s H C cl fp => (sg_tup Z.k rfl (sgs_cons (sg_name 3 sc_d29.nd rfl (by first | exact Or.inl rfl | exact Or.inr rfl)) (sgs_cons (sg_name 4 sc_d29.nd rfl (by first | exact Or.inl rfl | exact Or.inr rfl)) sgs_nil)))) (fun s H C cl fp => sts_nil) (fun s H C cl fp => (se_tup (sa_cons (se_bin (om_add Z.k) (se_var 3) (se_var 2)) (sa_cons (se_bin (om_add Z.k) (se_var 4) (se_var 2)) sa_nil)))) (by decide)))))))
theorem ok_d30 (Z : Fx P w K mg base T ad fd cv bm) : FnOk P w K mg base (L2.CX P w) 4 (ad 17) (fd 17) ["one", "other"] (spM T 2 (mFn 2 m_d30)) :=
  fn_mk Z.f_d30 sc_d30 fun cdv A outer s H E hr => (sb_cons (ss_expr (se_callP ((ok_d21 Z).mono (by decide)) hr (by rfl) Z.n_check_web Z.f_d21.kp Z.d_d21 (takes_of rfl rfl rfl rfl) (sa_cons (se_var 0) sa_nil)))
  (sb_cons (ss_expr (se_callP ((ok_d21 Z).mono (by decide)) hr (by rfl) Z.n_check_web Z.f_d21.kp Z.d_d21 (takes_of rfl rfl rfl rfl) (sa_cons (se_var 1) sa_nil)))
  (sb_one (ss_if (st_cmp om_gtI (se_bin (om_add Z.k) (se_callB ((cm_len Z.k).or (cm_lenI (by rw [Z.cN]; decide) Z.len5 ((ok_c20m3 Z).mono (by decide)) hr Z.d_c20m3)) (by rfl) Z.b_len (by rfl) (sa_cons (se_var 0) sa_nil)) (se_callB ((cm_len Z.k).or (cm_lenI (by rw [Z.cN]; decide) Z.len5 ((ok_c20m3 Z).mono (by decide)) hr Z.d_c20m3)) (by rfl) Z.b_len (by rfl) (sa_cons (se_var 1) sa_nil))) (se_gint (by rfl) Z.n_MOST_POINTS Z.v_MOST_POINTS) (nomark _))
  (sb_one (ss_raise1 4 rfl (takes_of rfl rfl rfl rfl) (by rw [Z.cN]; rfl) Z.o4 Z.i4 Z.t4 (Z.ok_i4.mono (by decide)) hr Z.d_i4 (passes_call (W := WN E) (takes_of rfl rfl rfl rfl) (fun _ _ _ _ h => h.elim)) (by rfl) Z.n_TooMany (se_gint (by rfl) Z.n_MOST_POINTS Z.v_MOST_POINTS)))
  sb_nil))))
theorem ok_d31 (Z : Fx P w K mg base T ad fd cv bm) : FnOk P w K mg base (L2.CX P w) 7 (ad 18) (fd 18) ["one", "other"] (spM T 2 (mFn 2 m_d31)) :=
  fn_mk Z.f_d31 sc_d31 fun cdv A outer s H E hr => (sb_cons (ss_expr (se_callP ((ok_d30 Z).mono (by decide)) hr (by rfl) Z.n_check_both Z.f_d30.kp Z.d_d30 (takes_of rfl rfl rfl rfl) (sa_cons (se_var 0) (sa_cons (se_var 1) sa_nil))))
  (sb_one (ss_ret (se_make (cl := 5) (nf := 4) (by rw [Z.cN]; rfl) Z.mk5 ((ok_c20m0 Z).mono (by decide)) hr (by rfl) Z.n_Web Z.d_c20m0 (takes_of rfl rfl rfl rfl) (sa_cons (se_bin (om_add Z.k) (se_fld 5 0 Z.cls5 Z.na5_colours (by rw [Z.cN]; decide) (by rw [Z.cN]; rfl) (se_var 0)) (se_fld 5 0 Z.cls5 Z.na5_colours (by rw [Z.cN]; decide) (by rw [Z.cN]; rfl) (se_var 1))) (sa_cons (se_callTy (cm_tuple Z.k) (by rfl) Z.b_tuple (by rfl) (sa_cons (se_callP ((ok_d29 Z).mono (by decide)) hr (by rfl) Z.n_ties_beside Z.f_d29.kp Z.d_d29 (takes_of rfl rfl rfl rfl) (sa_cons (se_var 0) (sa_cons (se_var 1) sa_nil))) sa_nil)) sa_nil))))))
theorem ok_d32 (Z : Fx P w K mg base T ad fd cv bm) : FnOk P w K mg base (L2.CX P w) 7 (ad 19) (fd 19) ["one", "other"] (spM T 2 (mFn 6 m_d32)) :=
  fn_mk Z.f_d32 sc_d32 fun cdv A outer s H E hr => (sb_cons (ss_expr (se_callP ((ok_d30 Z).mono (by decide)) hr (by rfl) Z.n_check_both Z.f_d30.kp Z.d_d30 (takes_of rfl rfl rfl rfl) (sa_cons (se_var 0) (sa_cons (se_var 1) sa_nil))))
  (sb_cons (ss_set 2 sc_d32.nd rfl (by first | exact Or.inl rfl | exact Or.inr rfl) (se_callB ((cm_len Z.k).or (cm_lenI (by rw [Z.cN]; decide) Z.len5 ((ok_c20m3 Z).mono (by decide)) hr Z.d_c20m3)) (by rfl) Z.b_len (by rfl) (sa_cons (se_var 0) sa_nil)))
  (sb_cons (lc2_stmt (i := 3) (own := [("here", 4), ("there", 5)]) (vs1 := [5]) set_lst rfl sc_d32.nd rfl rfl (sw_true rfl rfl rfl (by decide +kernel)) (si_range1 (by rfl) Z.b_range (sa_cons (se_var 2) sa_nil)) (show blkC ["one", "other", "many", "across", "here", "there"] (defScope s_d32) _ _ = true from by decide +kernel) (by decide) (fun s H C cl fp => (sg_name 4 sc_d32.nd rfl (by first | exact Or.inl rfl | exact Or.inr rfl))) (fun s H C cl fp => sts_nil) (fun s H C cl fp => (si_range1 (by rfl) Z.b_range (sa_cons (se_callB ((cm_len Z.k).or (cm_lenI (by rw [Z.cN]; decide) Z.len5 ((ok_c20m3 Z).mono (by decide)) hr Z.d_c20m3)) (by rfl) Z.b_len (by rfl) (sa_cons (se_var 1) sa_nil)) sa_nil))) (fun s H C cl fp => (sg_name 5 sc_d32.nd rfl (by first | exact Or.inl rfl | exact Or.inr rfl))) (fun s H C cl fp => sts_nil) (fun s H C cl fp => (se_tup (sa_cons (se_var 4) (sa_cons (se_bin (om_add Z.k) (se_var 2) (se_var 5)) sa_nil)))) (by decide) (by decide))
  (sb_one (ss_ret (se_make (cl := 5) (nf := 4) (by rw [Z.cN]; rfl) Z.mk5 ((ok_c20m0 Z).mono (by decide)) hr (by rfl) Z.n_Web Z.d_c20m0 (takes_of rfl rfl rfl rfl) (sa_cons (se_bin (om_add Z.k) (se_fld 5 0 Z.cls5 Z.na5_colours (by rw [Z.cN]; decide) (by rw [Z.cN]; rfl) (se_var 0)) (se_fld 5 0 Z.cls5 Z.na5_colours (by rw [Z.cN]; decide) (by rw [Z.cN]; rfl) (se_var 1))) (sa_cons (se_callTy (cm_tuple Z.k) (by rfl) Z.b_tuple (by rfl) (sa_cons (se_lst (sf_callB ((cf_sortI Z.k).or (cf_sortDI rfl)) (by rfl) Z.b_sorted (by rfl) (sa_cons (se_bin (om_add Z.k) (se_callP ((ok_d29 Z).mono (by decide)) hr (by rfl) Z.n_ties_beside Z.f_d29.kp Z.d_d29 (takes_of rfl rfl rfl rfl) (sa_cons (se_var 0) (sa_cons (se_var 1) sa_nil))) (se_var 3)) sa_nil))) sa_nil)) sa_nil))))))))
theorem ok_c20m1 (Z : Fx P w K mg base T ad fd cv bm) : FnOk P w K mg base (L2.CX P w) 5 (ad 20) (fd 20) ["self", "point"] (spM T 2 (mFn 2 m_c20m1)) :=
  fn_mk Z.f_c20m1 sc_c20m1 fun cdv A outer s H E hr => (sb_cons (ss_expr (se_callP ((ok_d22 Z).mono (by decide)) hr (by rfl) Z.n_check_point Z.f_d22.kp Z.d_d22 (takes_of rfl rfl rfl rfl) (sa_cons (se_var 0) (sa_cons (se_var 1) sa_nil))))
  (sb_one (ss_ret (se_pick (se_ix (im_seq Z.k) (se_fld 5 2 Z.cls5 Z.na5__near (by rw [Z.cN]; decide) (by rw [Z.cN]; rfl) (se_var 0)) (se_var 1)) (se_get (hr.u1) (se_fld 5 2 Z.cls5 Z.na5__near (by rw [Z.cN]; decide) (by rw [Z.cN]; rfl) (se_var 0)) (se_var 1) (fun _ _ => rfl))))))
theorem ok_d33 (Z : Fx P w K mg base T ad fd cv bm) : FnOk P w K mg base (L2.CX P w) 7 (ad 21) (fd 21) ["web"] (spM T 1 (mFn 6 m_d33)) :=
  fn_mk Z.f_d33 sc_d33 fun cdv A outer s H E hr => (sb_cons (ss_expr (se_callP ((ok_d21 Z).mono (by decide)) hr (by rfl) Z.n_check_web Z.f_d21.kp Z.d_d21 (takes_of rfl rfl rfl rfl) (sa_cons (se_var 0) sa_nil)))
  (sb_cons (ss_set 1 sc_d33.nd rfl (by first | exact Or.inl rfl | exact Or.inr rfl) (se_callB ((cm_len Z.k).or (cm_lenI (by rw [Z.cN]; decide) Z.len5 ((ok_c20m3 Z).mono (by decide)) hr Z.d_c20m3)) (by rfl) Z.b_len (by rfl) (sa_cons (se_var 0) sa_nil)))
  (sb_cons (lc2_stmt (i := 2) (own := [("here", 4), ("there", 5)]) (vs1 := [5]) set_lst rfl sc_d33.nd rfl rfl (sw_true rfl rfl rfl (by decide +kernel)) (si_range1 (by rfl) Z.b_range (sa_cons (se_var 1) sa_nil)) (show blkC ["web", "many", "pairs", "ties", "here", "there"] (defScope s_d33) _ _ = true from by decide +kernel) (by decide) (fun s H C cl fp => (sg_name 4 sc_d33.nd rfl (by first | exact Or.inl rfl | exact Or.inr rfl))) (fun s H C cl fp => sts_nil) (fun s H C cl fp => (si_range2 (by rfl) Z.b_range (sa_cons (se_bin (om_add Z.k) (se_var 4) se_int) (sa_cons (se_var 1) sa_nil)))) (fun s H C cl fp => (sg_name 5 sc_d33.nd rfl (by first | exact Or.inl rfl | exact Or.inr rfl))) (fun s H C cl fp => sts_nil) (fun s H C cl fp => (se_tup (sa_cons (se_var 4) (sa_cons (se_var 5) sa_nil)))) (by decide) (by decide))
  (sb_cons (lc_stmt (i := 3) (own := [("here", 4), ("there", 5)]) set_lst rfl sc_d33.nd rfl rfl (sw_true rfl rfl rfl (by decide +kernel)) (si_pick (si_tup Z.k (se_var 2)) (si_lst (se_var 2))) (show blkC ["web", "many", "pairs", "ties", "here", "there"] (defScope s_d33) _ _ = true from by decide +kernel) (fun s H C cl fp => (sg_tup Z.k rfl (sgs_cons (sg_name 4 sc_d33.nd rfl (by first | exact Or.inl rfl | exact Or.inr rfl)) (sgs_cons (sg_name 5 sc_d33.nd rfl (by first | exact Or.inl rfl | exact Or.inr rfl)) sgs_nil)))) (fun s H C cl fp => (sts_one (st_pick (st_notinD hr.u1 (se_var 5) (se_meth_of sp_callP (by rw [Z.cN]; decide) Z.cls5 Z.me_c20m1 ((ok_c20m1 Z).mono (by decide)) hr Z.d_c20m1 takes_none5 (se_var 0) (sa_cons (se_var 4) sa_nil)) (by rfl)) (st_cmp (om_notIn Z.k hr.u65) (se_var 5) (se_meth_of sp_callP (by rw [Z.cN]; decide) Z.cls5 Z.me_c20m1 ((ok_c20m1 Z).mono (by decide)) hr Z.d_c20m1 takes_none5 (se_var 0) (sa_cons (se_var 4) sa_nil)) (by rfl))))) (fun s H C cl fp => (se_tup (sa_cons (se_var 4) (sa_cons (se_var 5) sa_nil)))) (by decide))
  (sb_one (ss_ret (se_make (cl := 5) (nf := 4) (by rw [Z.cN]; rfl) Z.mk5 ((ok_c20m0 Z).mono (by decide)) hr (by rfl) Z.n_Web Z.d_c20m0 (takes_of rfl rfl rfl rfl) (sa_cons (se_fld 5 0 Z.cls5 Z.na5_colours (by rw [Z.cN]; decide) (by rw [Z.cN]; rfl) (se_var 0)) (sa_cons (se_callTy (cm_tuple Z.k) (by rfl) Z.b_tuple (by rfl) (sa_cons (se_var 3) sa_nil)) sa_nil)))))))))
theorem ok_d34 (Z : Fx P w K mg base T ad fd cv bm) : FnOk P w K mg base (L2.CX P w) 6 (ad 22) (fd 22) ["web", "point"] (spM T 2 (mFn 7 m_d34)) :=
  fn_mk Z.f_d34 sc_d34 fun cdv A outer s H E hr => (sb_cons (ss_set 2 sc_d34.nd rfl (by first | exact Or.inl rfl | exact Or.inr rfl) (se_dnew (sd_one (se_var 1) se_bl)))
  (sb_cons (ss_set 3 sc_d34.nd rfl (by first | exact Or.inl rfl | exact Or.inr rfl) (se_new (sf_lst (sa_cons (se_var 1) sa_nil))))
  (sb_cons (ss_while (passes_of rfl) (st_cmp (om_neD Z.k hr.u64) (se_var 3) (se_lst (sf_lst sa_nil)) (nomark _))
  (sb_cons (ss_set 4 sc_d34.nd rfl (by first | exact Or.inl rfl | exact Or.inr rfl) (se_meth_of sp_callP (by rw [Z.cN]; decide) Z.cls5 Z.me_c20m1 ((ok_c20m1 Z).mono (by decide)) hr Z.d_c20m1 (takes_of rfl rfl rfl rfl) (se_var 0) (sa_cons (se_bm0 PySem.F.plainAttrs_list PySem.F.slot_list_pop PySem.F.type_list_pop qt_pop ty_list (se_var 3)) sa_nil)))
  (sb_cons (lc_stmt (i := 5) (own := [("there", 6)]) set_lst rfl sc_d34.nd rfl rfl (sw_true rfl rfl rfl (by decide +kernel)) (si_pick (si_tup Z.k (se_var 4)) (si_lst (se_var 4))) (show blkC ["web", "point", "seen", "waiting", "near", "fresh", "there"] (defScope s_d34) _ _ = true from by decide +kernel) (fun s H C cl fp => (sg_name 6 sc_d34.nd rfl (by first | exact Or.inl rfl | exact Or.inr rfl))) (fun s H C cl fp => (sts_one (st_pick (st_notinD hr.u1 (se_var 6) (se_var 2) (by rfl)) (st_cmp (om_notIn Z.k hr.u65) (se_var 6) (se_var 2) (by rfl))))) (fun s H C cl fp => (se_var 6)) (by decide))
  (sb_cons (ss_for (passes_of rfl) rfl (si_pick (si_tup Z.k (se_var 5)) (si_lst (se_var 5))) (sg_name 6 sc_d34.nd rfl (by first | exact Or.inl rfl | exact Or.inr rfl))
  (sb_one (ss_pick (ss_asg se_bl (sg_subL (W := WN E) (se_var 2) (se_var 6))) (ss_put hr.u1 (se_var 2) (se_var 6) se_bl))))
  (sb_one (ss_expr (se_bm PySem.F.plainAttrs_list PySem.F.slot_list_extend PySem.F.type_list_extend qt_extend ty_list (se_var 3) (sa_cons (se_var 5) sa_nil))))))))
  (sb_one (ss_ret (se_callTy (cm_tuple Z.k) (by rfl) Z.b_tuple (by rfl) (sa_cons (se_lst (sf_callB ((cf_sortI Z.k).or (cf_sortDI rfl)) (by rfl) Z.b_sorted (by rfl) (sa_cons (se_var 2) sa_nil))) sa_nil)))))))
theorem ok_d35 (Z : Fx P w K mg base T ad fd cv bm) : FnOk P w K mg base (L2.CX P w) 7 (ad 23) (fd 23) ["web"] (spM T 1 (mFn 6 m_d35)) :=
  fn_mk Z.f_d35 sc_d35 fun cdv A outer s H E hr => (sb_cons (ss_expr (se_callP ((ok_d21 Z).mono (by decide)) hr (by rfl) Z.n_check_web Z.f_d21.kp Z.d_d21 (takes_of rfl rfl rfl rfl) (sa_cons (se_var 0) sa_nil)))
  (sb_cons (ss_set 1 sc_d35.nd rfl (by first | exact Or.inl rfl | exact Or.inr rfl) (se_new (sf_lst sa_nil)))
  (sb_cons (ss_set 2 sc_d35.nd rfl (by first | exact Or.inl rfl | exact Or.inr rfl) (se_dnew sd_nil))
  (sb_cons (ss_for (passes_of rfl) rfl (si_range1 (by rfl) Z.b_range (sa_cons (se_callB ((cm_len Z.k).or (cm_lenI (by rw [Z.cN]; decide) Z.len5 ((ok_c20m3 Z).mono (by decide)) hr Z.d_c20m3)) (by rfl) Z.b_len (by rfl) (sa_cons (se_var 0) sa_nil)) sa_nil)) (sg_name 3 sc_d35.nd rfl (by first | exact Or.inl rfl | exact Or.inr rfl))
  (sb_one (ss_if (st_pick (st_notinD hr.u1 (se_var 3) (se_var 2) (by rfl)) (st_cmp (om_notIn Z.k hr.u65) (se_var 3) (se_var 2) (by rfl)))
  (sb_cons (ss_set 4 sc_d35.nd rfl (by first | exact Or.inl rfl | exact Or.inr rfl) (se_callP ((ok_d34 Z).mono (by decide)) hr (by rfl) Z.n_piece_with Z.f_d34.kp Z.d_d34 (takes_of rfl rfl rfl rfl) (sa_cons (se_var 0) (sa_cons (se_var 3) sa_nil))))
  (sb_cons (ss_expr (se_bm PySem.F.plainAttrs_list PySem.F.slot_list_append PySem.F.type_list_append qt_append ty_list (se_var 1) (sa_cons (se_var 4) sa_nil)))
  (sb_one (ss_for (passes_of rfl) rfl (si_pick (si_tup Z.k (se_var 4)) (si_lst (se_var 4))) (sg_name 5 sc_d35.nd rfl (by first | exact Or.inl rfl | exact Or.inr rfl))
  (sb_one (ss_pick (ss_asg se_bl (sg_subL (W := WN E) (se_var 2) (se_var 5))) (ss_put hr.u1 (se_var 2) (se_var 5) se_bl)))))))
  sb_nil)))
  (sb_one (ss_ret (se_callTy (cm_tuple Z.k) (by rfl) Z.b_tuple (by rfl) (sa_cons (se_var 1) sa_nil))))))))
theorem ok_d36 (Z : Fx P w K mg base T ad fd cv bm) : FnOk P w K mg base (L2.CX P w) 4 (ad 24) (fd 24) ["web", "value"] (spM T 2 (mFn 2 m_d36)) :=
  fn_mk Z.f_d36 sc_d36 fun cdv A outer s H E hr => (sb_cons (ss_expr (se_callP ((ok_d21 Z).mono (by decide)) hr (by rfl) Z.n_check_web Z.f_d21.kp Z.d_d21 (takes_of rfl rfl rfl rfl) (sa_cons (se_var 0) sa_nil)))
  (sb_one (ss_ret (se_callP ((ok_d23 Z).mono (by decide)) hr (by rfl) Z.n_is_row_of Z.f_d23.kp Z.d_d23 (takes_of rfl rfl rfl rfl) (sa_cons (se_var 0) (sa_cons (se_var 1) sa_nil))))))
theorem ok_d37 (Z : Fx P w K mg base T ad fd cv bm) : FnOk P w K mg base (L2.CX P w) 3 (ad 25) (fd 25) ["web", "row"] (spM T 2 (mFn 9 m_d37)) :=
  fn_mk Z.f_d37 sc_d37 fun cdv A outer s H E hr => (sb_cons (ss_set 2 sc_d37.nd rfl (by first | exact Or.inl rfl | exact Or.inr rfl) (se_fld 5 2 Z.cls5 Z.na5__near (by rw [Z.cN]; decide) (by rw [Z.cN]; rfl) (se_var 0)))
  (sb_cons (ss_set 3 sc_d37.nd rfl (by first | exact Or.inl rfl | exact Or.inr rfl) (se_pick (se_ix (im_seq Z.k) (se_gval (by rfl) Z.n_PAIRS Z.v_PAIRS) (se_callB ((cm_len Z.k).or (cm_lenI (by rw [Z.cN]; decide) Z.len5 ((ok_c20m3 Z).mono (by decide)) hr Z.d_c20m3)) (by rfl) Z.b_len (by rfl) (sa_cons (se_var 1) sa_nil))) (se_get (hr.u1) (se_gval (by rfl) Z.n_PAIRS Z.v_PAIRS) (se_callB ((cm_len Z.k).or (cm_lenI (by rw [Z.cN]; decide) Z.len5 ((ok_c20m3 Z).mono (by decide)) hr Z.d_c20m3)) (by rfl) Z.b_len (by rfl) (sa_cons (se_var 1) sa_nil)) (fun _ _ => rfl))))
  (sb_cons (lc_stmt (i := 4) (own := [("low", 6), ("high", 7)]) set_lst rfl sc_d37.nd rfl rfl (sw_true rfl rfl rfl (by decide +kernel)) (si_pick (si_tup Z.k (se_var 3)) (si_lst (se_var 3))) (show blkC ["web", "row", "near", "pairs", "same", "tied", "low", "high", "point"] (defScope s_d37) _ _ = true from by decide +kernel) (fun s H C cl fp => (sg_tup Z.k rfl (sgs_cons (sg_name 6 sc_d37.nd rfl (by first | exact Or.inl rfl | exact Or.inr rfl)) (sgs_cons (sg_name 7 sc_d37.nd rfl (by first | exact Or.inl rfl | exact Or.inr rfl)) sgs_nil)))) (fun s H C cl fp => (sts_one (st_cmp (om_eqD Z.k hr.u64) (se_pick (se_ix (im_seq Z.k) (se_var 1) (se_var 6)) (se_get (hr.u1) (se_var 1) (se_var 6) (fun _ _ => rfl))) (se_pick (se_ix (im_seq Z.k) (se_var 1) (se_var 7)) (se_get (hr.u1) (se_var 1) (se_var 7) (fun _ _ => rfl))) (nomark _)))) (fun s H C cl fp => (se_tup (sa_cons (se_var 6) (sa_cons (se_var 7) sa_nil)))) (by decide))
  (sb_cons (lc_stmt (i := 5) (own := [("low", 6), ("high", 7)]) set_lst rfl sc_d37.nd rfl rfl (sw_true rfl rfl rfl (by decide +kernel)) (si_pick (si_tup Z.k (se_var 3)) (si_lst (se_var 3))) (show blkC ["web", "row", "near", "pairs", "same", "tied", "low", "high", "point"] (defScope s_d37) _ _ = true from by decide +kernel) (fun s H C cl fp => (sg_tup Z.k rfl (sgs_cons (sg_name 6 sc_d37.nd rfl (by first | exact Or.inl rfl | exact Or.inr rfl)) (sgs_cons (sg_name 7 sc_d37.nd rfl (by first | exact Or.inl rfl | exact Or.inr rfl)) sgs_nil)))) (fun s H C cl fp => (sts_one (st_pick (st_inD hr.u1 (se_pick (se_ix (im_seq Z.k) (se_var 1) (se_var 7)) (se_get (hr.u1) (se_var 1) (se_var 7) (fun _ _ => rfl))) (se_pick (se_ix (im_seq Z.k) (se_var 2) (se_pick (se_ix (im_seq Z.k) (se_var 1) (se_var 6)) (se_get (hr.u1) (se_var 1) (se_var 6) (fun _ _ => rfl)))) (se_get (hr.u1) (se_var 2) (se_pick (se_ix (im_seq Z.k) (se_var 1) (se_var 6)) (se_get (hr.u1) (se_var 1) (se_var 6) (fun _ _ => rfl))) (fun _ _ => rfl))) (by rfl)) (st_cmp (om_in Z.k hr.u65) (se_pick (se_ix (im_seq Z.k) (se_var 1) (se_var 7)) (se_get (hr.u1) (se_var 1) (se_var 7) (fun _ _ => rfl))) (se_pick (se_ix (im_seq Z.k) (se_var 2) (se_pick (se_ix (im_seq Z.k) (se_var 1) (se_var 6)) (se_get (hr.u1) (se_var 1) (se_var 6) (fun _ _ => rfl)))) (se_get (hr.u1) (se_var 2) (se_pick (se_ix (im_seq Z.k) (se_var 1) (se_var 6)) (se_get (hr.u1) (se_var 1) (se_var 6) (fun _ _ => rfl))) (fun _ _ => rfl))) (by rfl))))) (fun s H C cl fp => (se_tup (sa_cons (se_var 6) (sa_cons (se_var 7) sa_nil)))) (by decide))
  (sb_one (ss_ret (se_tup (sa_cons (se_callTy (cm_tuple Z.k) (by rfl) Z.b_tuple (by rfl) (sa_cons (se_lst (sf_lc (own := [("point", 8)]) rfl sc_d37.nd (si_pick (si_tup Z.k (se_var 1)) (si_lst (se_var 1))) (show blkC ["web", "row", "near", "pairs", "same", "tied", "low", "high", "point"] (defScope s_d37) _ _ = true from by decide +kernel) (fun s H C cl fp => (sg_name 8 sc_d37.nd rfl (by first | exact Or.inl rfl | exact Or.inr rfl))) (fun s H C cl fp => sts_nil) (fun s H C cl fp => (se_pick (se_ix (im_seq Z.k) (se_fld 5 0 Z.cls5 Z.na5_colours (by rw [Z.cN]; decide) (by rw [Z.cN]; rfl) (se_var 0)) (se_var 8)) (se_get (hr.u1) (se_fld 5 0 Z.cls5 Z.na5_colours (by rw [Z.cN]; decide) (by rw [Z.cN]; rfl) (se_var 0)) (se_var 8) (fun _ _ => rfl)))) (by decide))) sa_nil)) (sa_cons (se_callTy (cm_tuple Z.k) (by rfl) Z.b_tuple (by rfl) (sa_cons (se_var 4) sa_nil)) (sa_cons (se_callTy (cm_tuple Z.k) (by rfl) Z.b_tuple (by rfl) (sa_cons (se_var 5) sa_nil)) sa_nil))))))))))
theorem ok_d38 (Z : Fx P w K mg base T ad fd cv bm) : FnOk P w K mg base (L2.CX P w) 5 (ad 26) (fd 26) ["web", "row"] (spM T 2 (mFn 2 m_d38)) :=
  fn_mk Z.f_d38 sc_d38 fun cdv A outer s H E hr => (sb_cons (ss_expr (se_callP ((ok_d21 Z).mono (by decide)) hr (by rfl) Z.n_check_web Z.f_d21.kp Z.d_d21 (takes_of rfl rfl rfl rfl) (sa_cons (se_var 0) sa_nil)))
  (sb_cons (ss_expr (se_callP ((ok_d24 Z).mono (by decide)) hr (by rfl) Z.n_check_row Z.f_d24.kp Z.d_d24 (takes_of rfl rfl rfl rfl) (sa_cons (se_var 0) (sa_cons (se_var 1) sa_nil))))
  (sb_one (ss_ret (se_callP ((ok_d37 Z).mono (by decide)) hr (by rfl) Z.n_atom_at Z.f_d37.kp Z.d_d37 (takes_of rfl rfl rfl rfl) (sa_cons (se_var 0) (sa_cons (se_var 1) sa_nil)))))))
theorem ok_d39 (Z : Fx P w K mg base T ad fd cv bm) : FnOk P w K mg base (L2.CX P w) 5 (ad 27) (fd 27) ["one", "row", "other", "goal"] (spM T 4 (mFn 4 m_d39)) :=
  fn_mk Z.f_d39 sc_d39 fun cdv A outer s H E hr => (sb_cons (ss_expr (se_callP ((ok_d21 Z).mono (by decide)) hr (by rfl) Z.n_check_web Z.f_d21.kp Z.d_d21 (takes_of rfl rfl rfl rfl) (sa_cons (se_var 0) sa_nil)))
  (sb_cons (ss_expr (se_callP ((ok_d24 Z).mono (by decide)) hr (by rfl) Z.n_check_row Z.f_d24.kp Z.d_d24 (takes_of rfl rfl rfl rfl) (sa_cons (se_var 0) (sa_cons (se_var 1) sa_nil))))
  (sb_cons (ss_expr (se_callP ((ok_d21 Z).mono (by decide)) hr (by rfl) Z.n_check_web Z.f_d21.kp Z.d_d21 (takes_of rfl rfl rfl rfl) (sa_cons (se_var 2) sa_nil)))
  (sb_cons (ss_expr (se_callP ((ok_d24 Z).mono (by decide)) hr (by rfl) Z.n_check_row Z.f_d24.kp Z.d_d24 (takes_of rfl rfl rfl rfl) (sa_cons (se_var 2) (sa_cons (se_var 3) sa_nil))))
  (sb_one (ss_ret (se_cmp (om_eqD Z.k hr.u64) (se_callP ((ok_d37 Z).mono (by decide)) hr (by rfl) Z.n_atom_at Z.f_d37.kp Z.d_d37 (takes_of rfl rfl rfl rfl) (sa_cons (se_var 0) (sa_cons (se_var 1) sa_nil))) (se_callP ((ok_d37 Z).mono (by decide)) hr (by rfl) Z.n_atom_at Z.f_d37.kp Z.d_d37 (takes_of rfl rfl rfl rfl) (sa_cons (se_var 2) (sa_cons (se_var 3) sa_nil))) (nomark _))))))))
theorem ok_d41 (Z : Fx P w K mg base T ad fd cv bm) : FnOk P w K mg base (L2.CX P w) 3 (ad 28) (fd 28) ["script", "spot"] (spM T 2 (mFn 5 m_d41)) :=
  fn_mk Z.f_d41 sc_d41 fun cdv A outer s H E hr => (sb_cons (ss_set 2 sc_d41.nd rfl (by first | exact Or.inl rfl | exact Or.inr rfl) (se_if (st_cmp (om_ltI.or (om_ltT Z.k hr.u0)) (se_var 1) (se_callB ((cm_len Z.k).or (cm_lenI (by rw [Z.cN]; decide) Z.len5 ((ok_c20m3 Z).mono (by decide)) hr Z.d_c20m3)) (by rfl) Z.b_len (by rfl) (sa_cons (se_var 0) sa_nil)) (nomark _)) (se_callTy cm_int (by rfl) Z.b_int (by rfl) (sa_cons (se_pick (se_ix (im_seq Z.k) (se_var 0) (se_var 1)) (se_get (hr.u1) (se_var 0) (se_var 1) (fun _ _ => rfl))) sa_nil)) (se_bin (om_add Z.k) (se_bin (om_mulW.or (om_repW Z.k)) se_int (se_var 1)) se_int)))
  (sb_cons (ss_set 3 sc_d41.nd rfl (by first | exact Or.inl rfl | exact Or.inr rfl) (se_bin om_modI (se_callTy cm_int (by rfl) Z.b_int (by rfl) (sa_cons (se_callB cm_abs (by rfl) Z.b_abs (by rfl) (sa_cons (se_var 2) sa_nil)) sa_nil)) (se_bin om_powX (se_bin om_powX se_int se_int) se_int)))
  (sb_cons (ss_set 4 sc_d41.nd rfl (by first | exact Or.inl rfl | exact Or.inr rfl) (se_callTy cm_int (by rfl) Z.b_int (by rfl) (sa_cons (se_bin (om_add Z.k) (se_bin (om_add Z.k) (se_bin (om_add Z.k) (se_bin (om_mulW.or (om_repW Z.k)) (se_bin om_modI (se_var 3) se_int) se_int) (se_bin (om_mulW.or (om_repW Z.k)) se_int (se_var 1))) (se_bin (om_mulW.or (om_repW Z.k)) se_int (se_callTy cm_int (by rfl) Z.b_int (by rfl) (sa_cons (se_cmp (om_ltI.or (om_ltT Z.k hr.u0)) (se_var 2) se_int (nomark _)) sa_nil)))) se_int) sa_nil)))
  (sb_one (ss_ret (se_new (sf_lst (sa_cons (se_callB (cm_max2 rfl) (by rfl) Z.b_max (by rfl) (sa_cons se_int (sa_cons (se_bin om_subI (se_var 3) (se_bin om_powX se_int se_int)) sa_nil))) (sa_cons (se_bin om_modI (se_var 4) se_int) (sa_cons se_int sa_nil))))))))))
theorem ok_d42 (Z : Fx P w K mg base T ad fd cv bm) : FnOk P w K mg base (L2.CX P w) 1 (ad 29) (fd 29) ["pot", "total"] (spM T 2 (mFn 5 m_d42)) :=
  fn_mk Z.f_d42 sc_d42 fun cdv A outer s H E hr => (sb_cons (ss_if (st_cmp om_gtI (se_pick (se_ix (im_seq Z.k) (se_var 0) se_int) (se_get (hr.u1) (se_var 0) se_int (fun _ _ => rfl))) se_int (nomark _))
  (sb_cons (ss_set 2 sc_d42.nd rfl (by first | exact Or.inl rfl | exact Or.inr rfl) (se_bin om_modI (se_callTy cm_int (by rfl) Z.b_int (by rfl) (sa_cons (se_pick (se_ix (im_seq Z.k) (se_var 0) se_int) (se_get (hr.u1) (se_var 0) se_int (fun _ _ => rfl))) sa_nil)) (se_var 1)))
  (sb_cons (ss_pick (ss_asg (se_bin om_divW (se_pick (se_ix (im_seq Z.k) (se_var 0) se_int) (se_get (hr.u1) (se_var 0) se_int (fun _ _ => rfl))) (se_var 1)) (sg_subL (W := WN E) (se_var 0) se_int)) (ss_put hr.u1 (se_var 0) se_int (se_bin om_divW (se_pick (se_ix (im_seq Z.k) (se_var 0) se_int) (se_get (hr.u1) (se_var 0) se_int (fun _ _ => rfl))) (se_var 1))))
  (sb_one (ss_ret (se_var 2)))))
  sb_nil)
  (sb_cons (ss_pick (ss_asg (se_bin (om_add Z.k) (se_pick (se_ix (im_seq Z.k) (se_var 0) se_int) (se_get (hr.u1) (se_var 0) se_int (fun _ _ => rfl))) se_int) (sg_subL (W := WN E) (se_var 0) se_int)) (ss_put hr.u1 (se_var 0) se_int (se_bin (om_add Z.k) (se_pick (se_ix (im_seq Z.k) (se_var 0) se_int) (se_get (hr.u1) (se_var 0) se_int (fun _ _ => rfl))) se_int)))
  (sb_cons (ss_set 3 sc_d42.nd rfl (by first | exact Or.inl rfl | exact Or.inr rfl) (se_bin om_modI (se_callTy cm_int (by rfl) Z.b_int (by rfl) (sa_cons (se_bin (om_add Z.k) (se_pick (se_ix (im_seq Z.k) (se_var 0) se_int) (se_get (hr.u1) (se_var 0) se_int (fun _ _ => rfl))) (se_bin (om_mulW.or (om_repW Z.k)) se_int (se_pick (se_ix (im_seq Z.k) (se_var 0) se_int) (se_get (hr.u1) (se_var 0) se_int (fun _ _ => rfl))))) sa_nil)) se_int))
  (sb_cons (ss_set 4 sc_d42.nd rfl (by first | exact Or.inl rfl | exact Or.inr rfl) (se_bin (om_add Z.k) (se_bin (om_add Z.k) (se_bin (om_mulW.or (om_repW Z.k)) (se_bin om_modI (se_callTy cm_int (by rfl) Z.b_int (by rfl) (sa_cons (se_bin (om_add Z.k) (se_bin (om_mulW.or (om_repW Z.k)) (se_var 3) (se_var 3)) se_int) sa_nil)) se_int) se_int) (se_var 3)) (se_bin (om_mulW.or (om_repW Z.k)) se_int (se_pick (se_ix (im_seq Z.k) (se_var 0) se_int) (se_get (hr.u1) (se_var 0) se_int (fun _ _ => rfl))))))
  (sb_one (ss_ret (se_bin om_modI (se_callTy cm_int (by rfl) Z.b_int (by rfl) (sa_cons (se_bin om_divW (se_var 4) se_int) sa_nil)) (se_var 1))))))))
theorem ok_d43 (Z : Fx P w K mg base T ad fd cv bm) : FnOk P w K mg base (L2.CX P w) 3 (ad 30) (fd 30) ["items", "turn"] (spM T 2 (mFn 2 m_d43)) :=
  fn_mk Z.f_d43 sc_d43 fun cdv A outer s H E hr => (sb_one (ss_ret (se_pick (se_ix (im_seq Z.k) (se_var 0) (se_bin om_modI (se_callTy cm_int (by rfl) Z.b_int (by rfl) (sa_cons (se_var 1) sa_nil)) (se_callB ((cm_len Z.k).or (cm_lenI (by rw [Z.cN]; decide) Z.len5 ((ok_c20m3 Z).mono (by decide)) hr Z.d_c20m3)) (by rfl) Z.b_len (by rfl) (sa_cons (se_var 0) sa_nil)))) (se_get (hr.u1) (se_var 0) (se_bin om_modI (se_callTy cm_int (by rfl) Z.b_int (by rfl) (sa_cons (se_var 1) sa_nil)) (se_callB ((cm_len Z.k).or (cm_lenI (by rw [Z.cN]; decide) Z.len5 ((ok_c20m3 Z).mono (by decide)) hr Z.d_c20m3)) (by rfl) Z.b_len (by rfl) (sa_cons (se_var 0) sa_nil))) (fun _ _ => rfl)))))
theorem ok_c20m2 (Z : Fx P w K mg base T ad fd cv bm) : FnOk P w K mg base (L2.CX P w) 5 (ad 31) (fd 31) ["self", "here", "there"] (spM T 3 (mFn 3 m_c20m2)) :=
  fn_mk Z.f_c20m2 sc_c20m2 fun cdv A outer s H E hr => (sb_cons (ss_expr (se_callP ((ok_d22 Z).mono (by decide)) hr (by rfl) Z.n_check_point Z.f_d22.kp Z.d_d22 (takes_of rfl rfl rfl rfl) (sa_cons (se_var 0) (sa_cons (se_var 1) sa_nil))))
  (sb_cons (ss_expr (se_callP ((ok_d22 Z).mono (by decide)) hr (by rfl) Z.n_check_point Z.f_d22.kp Z.d_d22 (takes_of rfl rfl rfl rfl) (sa_cons (se_var 0) (sa_cons (se_var 2) sa_nil))))
  (sb_one (ss_ret (se_pick (se_inD hr.u1 (se_var 2) (se_pick (se_ix (im_seq Z.k) (se_fld 5 2 Z.cls5 Z.na5__near (by rw [Z.cN]; decide) (by rw [Z.cN]; rfl) (se_var 0)) (se_var 1)) (se_get (hr.u1) (se_fld 5 2 Z.cls5 Z.na5__near (by rw [Z.cN]; decide) (by rw [Z.cN]; rfl) (se_var 0)) (se_var 1) (fun _ _ => rfl))) (by rfl)) (se_cmp (om_in Z.k hr.u65) (se_var 2) (se_pick (se_ix (im_seq Z.k) (se_fld 5 2 Z.cls5 Z.na5__near (by rw [Z.cN]; decide) (by rw [Z.cN]; rfl) (se_var 0)) (se_var 1)) (se_get (hr.u1) (se_fld 5 2 Z.cls5 Z.na5__near (by rw [Z.cN]; decide) (by rw [Z.cN]; rfl) (se_var 0)) (se_var 1) (fun _ _ => rfl))) (by rfl)))))))
theorem met_call (Z : Fx P w K mg base T ad fd cv bm) {N : List Str} {q : Str} {sc : Scope} {f : Addr} {A : Around} {outer : List PySem.Env} {s : Shared} {H : Hp} {E : XK} {W : WX} {k : Nat} {cdv : Value} {c P0 : Addr} {params : Arguments} {body : Expr} {scope : Scope} {lpos p pos : Pos} {mb : ME}
    (gd : A.guards = some []) (hr : Room (k + 2) (A.deeper (envOfC q sc s.heap.objs.size f cdv))) (TB : LamX.TabB base mg c P0) (hcode : cdv = .ref c) (hmT : (P0, (q ++ ".<locals>.") ++ "<lambda>") ∈ T.tb) (hu : ∀ p ∈ T.tb, p.1 = P0 → p.2 = (q ++ ".<locals>.") ++ "<lambda>") (hg : Gl (cxOf (L2.CX P w) P w K mg base N q sc f cdv A outer s H E) "_law_met")
    (L : LamX.LamS sc scope) (hdef : defaultsOf params (cxOf (L2.CX P w) P w K mg base N q sc f cdv A outer s H E).env = ([], [])) (hbind : ∀ (q : Str) (cl : List (Str × Addr)) (pm cv ctv : Value), bindArgs (PySem.W.kla_fn "<lambda>" q params body scope cl pm cv ctv) ⟨[], []⟩ = pure [])
    (hlam : ∀ (A2 : Around) (o2 : List PySem.Env) (s2 : Shared) (H2 : Hp) (E2 : XK) (f2 c2 : Addr), Room k (A2.deeper (LamX.lamEnv (cxOf (L2.CX P w) P w K mg base N q sc f cdv A outer s H E) scope s2.heap.objs.size f2 c2)) → SE (LamX.lamCx (cxOf (L2.CX P w) P w K mg base N q sc f cdv A outer s H E) A2 o2 s2 H2 E2 scope f2 c2) T (WN E2) body mb) :
    SE (cxOf (L2.CX P w) P w K mg base N q sc f cdv A outer s H E) T W (.Call (.Name "_law_met" p) [.Lambda params body scope lpos] [] pos) (mMet 2 5 metL metF mb) :=
  se_met Z.ex Z.k Z.apart Z.f_d44 rfl sc_d44 rfl (Or.inl rfl)
    (fun cdg s2 H2 => (.plain (by decide) ⟨by rfl, by decide, .inl Z.n_InvalidWeb⟩ (fun q ob pn => (sb_one (ss_ret (se_tup (sa_cons se_str (sa_cons se_str sa_nil)))))) (.plain (by decide) ⟨by rfl, by decide, .inl Z.n_InvalidRow⟩ (fun q ob pn => (sb_one (ss_ret (se_tup (sa_cons se_str (sa_cons se_str sa_nil)))))) (.plain (by decide) ⟨by rfl, by decide, .inl Z.n_InvalidOperation⟩ (fun q ob pn => (sb_one (ss_ret (se_tup (sa_cons se_str (sa_cons se_str sa_nil)))))) (.bound (by decide) ⟨by rfl, by decide, .inl Z.n_InvalidNumber⟩ rfl rfl (fun q dx ob pn hz hf => (sb_one (ss_ret (se_tup (sa_cons se_str (sa_cons (se_bin (om_add Z.k) se_str (se_callB (cm_reprD Z.k (by exact gd) (by exact uns64 hr _ _)) (by rfl) Z.b_repr (by rfl) (sa_cons (se_exf (cl := 3) (i := 0) (Z.e3) hz hf (se_var 1) (by rw [Z.cN]; decide) (by rw [Z.cN]; rfl)) sa_nil))) sa_nil)))))) (.bound (by decide) ⟨by rfl, by decide, .inl Z.n_TooMany⟩ rfl rfl (fun q dx ob pn hz hf => (sb_one (ss_ret (se_tup (sa_cons se_str (sa_cons (se_bin (om_add Z.k) se_str (se_callB (cm_reprD Z.k (by exact gd) (by exact uns64 hr _ _)) (by rfl) Z.b_repr (by rfl) (sa_cons (se_exf (cl := 4) (i := 0) (Z.e4) hz hf (se_var 1) (by rw [Z.cN]; decide) (by rw [Z.cN]; rfl)) sa_nil))) sa_nil)))))) .nil))))))
    (fun cdg s2 H2 => (sb_one (ss_ret (se_tup (sa_cons se_str (sa_cons se_str sa_nil)))))) rfl hg Z.n__law_met Z.d_d44 TB hcode hmT hu hr L hdef hbind hlam
theorem okG_d45 (Z : Fx P w K mg base T ad fd cv bm) (TB_law_right : LamX.TabB base mg (ad 37) (ad 38)) (TBlaw : LamX.TabB base mg (ad 39) (ad 40)) : FnG P w K mg base (L2.CX P w) 10 (ad 32) (fd 32) ["turn"] (spM T 1 (mFn 16 m_d45)) :=
  have TB := TB_law_right
  have huT : ∀ p ∈ T.tb, p.1 = ad 38 → p.2 = (("_law_right" : Str) ++ ".<locals>.") ++ "<lambda>" := by
    rw [Z.tb]
    intro p hp e
    simp only [List.mem_cons, List.not_mem_nil, or_false] at hp
    rcases hp with rfl | rfl
    · rfl
    · exact absurd e.symm Z.tne
  fg_mkC Z.f_d45 sc_d45 Z.co__law_right fun A outer s H E gd hr => (sb_cons (ss_set 1 sc_d45.nd rfl (by first | exact Or.inl rfl | exact Or.inr rfl) (se_make (cl := 5) (nf := 4) (by rw [Z.cN]; rfl) Z.mk5 ((ok_c20m0 Z).mono (by decide)) hr (by rfl) Z.n_Web Z.d_c20m0 (takes_of rfl rfl rfl rfl) (sa_cons (se_tup (sa_cons se_int (sa_cons se_int (sa_cons se_int sa_nil)))) (sa_cons (se_tup (sa_cons (se_tup (sa_cons se_int (sa_cons se_int sa_nil))) (sa_cons (se_tup (sa_cons se_int (sa_cons se_int sa_nil))) sa_nil))) sa_nil))))
  (sb_cons (ss_set 2 sc_d45.nd rfl (by first | exact Or.inl rfl | exact Or.inr rfl) (se_lst (sf_lst (sa_cons se_non (sa_cons se_int (sa_cons (se_lst (sf_lst (sa_cons se_int sa_nil))) (sa_cons (se_tup (sa_cons (se_neg se_int) sa_nil)) (sa_cons (se_tup (sa_cons se_int sa_nil)) (sa_cons (se_tup (sa_cons se_bl sa_nil)) (sa_cons (se_tup (sa_cons se_str sa_nil)) (sa_cons (se_tup (sa_cons se_non sa_nil)) (sa_cons (se_bin (om_mulW.or (om_repW Z.k)) (se_tup (sa_cons se_int sa_nil)) se_int) (sa_cons (se_dct sd_nil) (sa_cons se_str (sa_cons (se_tup (sa_cons (se_tup (sa_cons se_int sa_nil)) sa_nil)) (sa_cons (se_tup (sa_cons (se_bin om_powX se_int se_int) sa_nil)) sa_nil))))))))))))))))
  (sb_cons (ss_set 3 sc_d45.nd rfl (by first | exact Or.inl rfl | exact Or.inr rfl) (se_lst (sf_lst (sa_cons se_non (sa_cons (se_lst (sf_lst sa_nil)) (sa_cons (se_tup (sa_cons (se_tup (sa_cons se_int (sa_cons se_int sa_nil))) sa_nil)) (sa_cons (se_tup (sa_cons (se_tup (sa_cons se_int (sa_cons se_int sa_nil))) sa_nil)) (sa_cons (se_tup (sa_cons (se_tup (sa_cons se_int (sa_cons se_int sa_nil))) sa_nil)) (sa_cons (se_tup (sa_cons (se_tup (sa_cons (se_neg se_int) (sa_cons se_int sa_nil))) sa_nil)) (sa_cons (se_tup (sa_cons (se_tup (sa_cons se_int (sa_cons se_int (sa_cons se_int sa_nil)))) sa_nil)) (sa_cons (se_tup (sa_cons (se_tup (sa_cons se_int (sa_cons se_int sa_nil))) (sa_cons (se_tup (sa_cons se_int (sa_cons se_int sa_nil))) sa_nil))) (sa_cons (se_tup (sa_cons (se_tup (sa_cons se_int (sa_cons se_int sa_nil))) (sa_cons (se_tup (sa_cons se_int (sa_cons se_int sa_nil))) sa_nil))) (sa_cons (se_tup (sa_cons (se_tup (sa_cons se_int sa_nil)) sa_nil)) (sa_cons (se_tup (sa_cons (se_lst (sf_lst (sa_cons se_int (sa_cons se_int sa_nil)))) sa_nil)) sa_nil))))))))))))))
  (sb_cons (ss_set 3 sc_d45.nd rfl (by first | exact Or.inl rfl | exact Or.inr rfl) (se_callP ((ok_d43 Z).mono (by decide)) hr (by rfl) Z.n__law_wb_turned Z.f_d43.kp Z.d_d43 (takes_of rfl rfl rfl rfl) (sa_cons (se_bin (om_add Z.k) (se_var 3) (se_lst (sf_lst (sa_cons (se_tup (sa_cons (se_tup (sa_cons se_int (sa_cons se_bl sa_nil))) sa_nil)) (sa_cons (se_tup (sa_cons (se_tup (sa_cons se_str (sa_cons se_int sa_nil))) sa_nil)) (sa_cons (se_tup (sa_cons (se_tup (sa_cons se_bl (sa_cons se_int sa_nil))) sa_nil)) (sa_cons (se_dct sd_nil) (sa_cons (se_tup (sa_cons se_int (sa_cons se_int sa_nil))) (sa_cons (se_tup (sa_cons (se_tup (sa_cons se_int (sa_cons se_non sa_nil))) sa_nil)) (sa_cons se_int sa_nil)))))))))) (sa_cons (se_var 0) sa_nil))))
  (sb_cons (ss_set 4 sc_d45.nd rfl (by first | exact Or.inl rfl | exact Or.inr rfl) (se_callP ((ok_d43 Z).mono (by decide)) hr (by rfl) Z.n__law_wb_turned Z.f_d43.kp Z.d_d43 (takes_of rfl rfl rfl rfl) (sa_cons (se_var 2) (sa_cons (se_var 0) sa_nil))))
  (sb_cons (ss_set 5 sc_d45.nd rfl (by first | exact Or.inl rfl | exact Or.inr rfl) (se_callP ((ok_d43 Z).mono (by decide)) hr (by rfl) Z.n__law_wb_turned Z.f_d43.kp Z.d_d43 (takes_of rfl rfl rfl rfl) (sa_cons (se_lst (sf_lst (sa_cons se_non (sa_cons se_int (sa_cons (se_tup sa_nil) (sa_cons se_str (sa_cons (se_tup (sa_cons (se_tup (sa_cons se_int sa_nil)) (sa_cons (se_tup sa_nil) sa_nil))) (sa_cons (se_lst (sf_lst (sa_cons (se_var 1) sa_nil))) (sa_cons (se_dct sd_nil) (sa_cons se_bl sa_nil)))))))))) (sa_cons (se_var 0) sa_nil))))
  (sb_cons (ss_set 6 sc_d45.nd rfl (by first | exact Or.inl rfl | exact Or.inr rfl) (se_lst (sf_lst (sa_cons se_non (sa_cons (se_lst (sf_lst (sa_cons se_int sa_nil))) (sa_cons (se_tup (sa_cons se_int (sa_cons se_int sa_nil))) (sa_cons (se_tup (sa_cons se_int (sa_cons se_int sa_nil))) (sa_cons (se_tup (sa_cons se_int (sa_cons se_int sa_nil))) (sa_cons (se_tup (sa_cons (se_neg se_int) sa_nil)) (sa_cons (se_tup (sa_cons se_bl sa_nil)) (sa_cons (se_tup (sa_cons se_str sa_nil)) (sa_cons se_int (sa_cons (se_dct sd_nil) (sa_cons (se_tup (sa_cons se_int (sa_cons se_int (sa_cons se_int (sa_cons se_int sa_nil))))) (sa_cons (se_tup (sa_cons se_non sa_nil)) (sa_cons (se_tup (sa_cons (se_tup (sa_cons se_int sa_nil)) sa_nil)) sa_nil))))))))))))))))
  (sb_cons (ss_set 6 sc_d45.nd rfl (by first | exact Or.inl rfl | exact Or.inr rfl) (se_callP ((ok_d43 Z).mono (by decide)) hr (by rfl) Z.n__law_wb_turned Z.f_d43.kp Z.d_d43 (takes_of rfl rfl rfl rfl) (sa_cons (se_var 6) (sa_cons (se_var 0) sa_nil))))
  (sb_cons (ss_set 7 sc_d45.nd rfl (by first | exact Or.inl rfl | exact Or.inr rfl) (se_lst (sf_lst (sa_cons se_non (sa_cons (se_lst (sf_lst (sa_cons se_int (sa_cons se_int (sa_cons se_int sa_nil))))) (sa_cons (se_tup (sa_cons se_int (sa_cons se_int sa_nil))) (sa_cons (se_tup (sa_cons se_int (sa_cons se_int (sa_cons se_int sa_nil)))) (sa_cons (se_tup (sa_cons se_int (sa_cons se_int (sa_cons se_int sa_nil)))) (sa_cons (se_tup (sa_cons se_int (sa_cons se_int (sa_cons se_int (sa_cons se_int sa_nil))))) (sa_cons (se_tup (sa_cons se_bl (sa_cons se_int (sa_cons se_int sa_nil)))) (sa_cons (se_tup (sa_cons se_str (sa_cons se_int (sa_cons se_int sa_nil)))) (sa_cons (se_dct sd_nil) (sa_cons se_int (sa_cons (se_tup (sa_cons se_int (sa_cons se_int (sa_cons (se_neg se_int) sa_nil)))) (sa_cons (se_tup sa_nil) sa_nil)))))))))))))))
  (sb_cons (ss_set 7 sc_d45.nd rfl (by first | exact Or.inl rfl | exact Or.inr rfl) (se_callP ((ok_d43 Z).mono (by decide)) hr (by rfl) Z.n__law_wb_turned Z.f_d43.kp Z.d_d43 (takes_of rfl rfl rfl rfl) (sa_cons (se_var 7) (sa_cons (se_var 0) sa_nil))))
  (sb_cons (ss_set 8 sc_d45.nd rfl (by first | exact Or.inl rfl | exact Or.inr rfl) (se_lst (sf_lst (sa_cons se_non (sa_cons (se_tup (sa_cons se_int (sa_cons se_int sa_nil))) (sa_cons (se_tup (sa_cons se_int (sa_cons se_int (sa_cons se_int (sa_cons se_int sa_nil))))) (sa_cons (se_tup (sa_cons se_int (sa_cons se_int (sa_cons se_int sa_nil)))) (sa_cons (se_tup (sa_cons se_int (sa_cons se_int (sa_cons (se_neg se_int) sa_nil)))) (sa_cons (se_lst (sf_lst (sa_cons se_int (sa_cons se_int (sa_cons se_int sa_nil))))) (sa_cons (se_tup (sa_cons se_int (sa_cons se_int (sa_cons se_bl sa_nil)))) (sa_cons (se_tup (sa_cons se_int (sa_cons se_int (sa_cons se_str sa_nil)))) (sa_cons (se_dct sd_nil) (sa_cons se_str (sa_cons se_int (sa_cons (se_tup sa_nil) sa_nil)))))))))))))))
  (sb_cons (ss_set 8 sc_d45.nd rfl (by first | exact Or.inl rfl | exact Or.inr rfl) (se_callP ((ok_d43 Z).mono (by decide)) hr (by rfl) Z.n__law_wb_turned Z.f_d43.kp Z.d_d43 (takes_of rfl rfl rfl rfl) (sa_cons (se_var 8) (sa_cons (se_var 0) sa_nil))))
  (sb_cons (ss_set 9 sc_d45.nd rfl (by first | exact Or.inl rfl | exact Or.inr rfl) (se_lst (sf_lst (sa_cons se_non (sa_cons se_int (sa_cons (se_lst (sf_lst (sa_cons se_int sa_nil))) (sa_cons (se_tup (sa_cons se_int sa_nil)) (sa_cons (se_tup (sa_cons (se_neg se_int) sa_nil)) (sa_cons (se_tup (sa_cons se_bl sa_nil)) (sa_cons (se_tup (sa_cons se_str sa_nil)) (sa_cons (se_tup (sa_cons se_int (sa_cons se_int (sa_cons se_int (sa_cons se_int (sa_cons se_int sa_nil)))))) (sa_cons (se_tup (sa_cons se_non sa_nil)) (sa_cons (se_dct sd_nil) (sa_cons se_str (sa_cons (se_tup (sa_cons (se_tup (sa_cons se_int sa_nil)) sa_nil)) (sa_cons (se_tup (sa_cons (se_bin om_powX se_int se_int) sa_nil)) sa_nil))))))))))))))))
  (sb_cons (ss_set 9 sc_d45.nd rfl (by first | exact Or.inl rfl | exact Or.inr rfl) (se_callP ((ok_d43 Z).mono (by decide)) hr (by rfl) Z.n__law_wb_turned Z.f_d43.kp Z.d_d43 (takes_of rfl rfl rfl rfl) (sa_cons (se_var 9) (sa_cons (se_var 0) sa_nil))))
  (sb_cons (ss_set 10 sc_d45.nd rfl (by first | exact Or.inl rfl | exact Or.inr rfl) (se_callP ((ok_d43 Z).mono (by decide)) hr (by rfl) Z.n__law_wb_turned Z.f_d43.kp Z.d_d43 (takes_of rfl rfl rfl rfl) (sa_cons (se_lst (sf_lst (sa_cons se_non (sa_cons (se_neg se_int) (sa_cons se_int (sa_cons se_bl (sa_cons se_str (sa_cons (se_tup (sa_cons se_int sa_nil)) (sa_cons (se_bin om_powX se_int se_int) (sa_cons (se_lst (sf_lst sa_nil)) sa_nil)))))))))) (sa_cons (se_var 0) sa_nil))))
  (sb_cons (ss_set 11 sc_d45.nd rfl (by first | exact Or.inl rfl | exact Or.inr rfl) (se_new (sf_lst (sa_cons (met_call Z (by exact gd) hr TB rfl (by rw [Z.tb]; first | exact List.mem_cons_self | exact List.mem_cons_of_mem _ List.mem_cons_self) huT (by rfl) (LamX.lamS_by (by decide +kernel)) (by rfl) (fun _ _ _ _ _ => rfl) (fun A2 o2 s2 H2 E2 f2 c2 hr => (se_make (cl := 5) (nf := 4) (by rw [Z.cN]; rfl) Z.mk5 ((ok_c20m0 Z).mono (by decide)) hr (by rfl) Z.n_Web Z.d_c20m0 (takes_of rfl rfl rfl rfl) (sa_cons (se_var 4) (sa_cons (se_tup sa_nil) sa_nil))))) sa_nil))))
  (sb_cons (ss_expr (se_bm PySem.F.plainAttrs_list PySem.F.slot_list_append PySem.F.type_list_append qt_append ty_list (se_var 11) (sa_cons (met_call Z (by exact gd) hr TB rfl (by rw [Z.tb]; first | exact List.mem_cons_self | exact List.mem_cons_of_mem _ List.mem_cons_self) huT (by rfl) (LamX.lamS_by (by decide +kernel)) (by rfl) (fun _ _ _ _ _ => rfl) (fun A2 o2 s2 H2 E2 f2 c2 hr => (se_make (cl := 5) (nf := 4) (by rw [Z.cN]; rfl) Z.mk5 ((ok_c20m0 Z).mono (by decide)) hr (by rfl) Z.n_Web Z.d_c20m0 (takes_of rfl rfl rfl rfl) (sa_cons (se_var 4) (sa_cons (se_var 3) sa_nil))))) sa_nil)))
  (sb_cons (ss_expr (se_bm PySem.F.plainAttrs_list PySem.F.slot_list_append PySem.F.type_list_append qt_append ty_list (se_var 11) (sa_cons (met_call Z (by exact gd) hr TB rfl (by rw [Z.tb]; first | exact List.mem_cons_self | exact List.mem_cons_of_mem _ List.mem_cons_self) huT (by rfl) (LamX.lamS_by (by decide +kernel)) (by rfl) (fun _ _ _ _ _ => rfl) (fun A2 o2 s2 H2 E2 f2 c2 hr => (se_make (cl := 5) (nf := 4) (by rw [Z.cN]; rfl) Z.mk5 ((ok_c20m0 Z).mono (by decide)) hr (by rfl) Z.n_Web Z.d_c20m0 (takes_of rfl rfl rfl rfl) (sa_cons (se_tup (sa_cons se_int (sa_cons se_int (sa_cons se_int sa_nil)))) (sa_cons (se_var 3) sa_nil))))) sa_nil)))
  (sb_cons (ss_set 12 sc_d45.nd rfl (by first | exact Or.inl rfl | exact Or.inr rfl) (se_new (sf_lst (sa_cons se_str (sa_cons se_str (sa_cons se_str sa_nil))))))
  (sb_cons (ss_expr (se_bm PySem.F.plainAttrs_list PySem.F.slot_list_append PySem.F.type_list_append qt_append ty_list (se_var 11) (sa_cons (met_call Z (by exact gd) hr TB rfl (by rw [Z.tb]; first | exact List.mem_cons_self | exact List.mem_cons_of_mem _ List.mem_cons_self) huT (by rfl) (LamX.lamS_by (by decide +kernel)) (by rfl) (fun _ _ _ _ _ => rfl) (fun A2 o2 s2 H2 E2 f2 c2 hr => (se_meth_of sp_callP (by rw [Z.cN]; decide) Z.cls5 Z.me_c20m1 ((ok_c20m1 Z).mono (by decide)) hr Z.d_c20m1 (takes_of rfl rfl rfl rfl) (se_var 1) (sa_cons (se_var 10) sa_nil)))) sa_nil)))
  (sb_cons (ss_expr (se_bm PySem.F.plainAttrs_list PySem.F.slot_list_append PySem.F.type_list_append qt_append ty_list (se_var 11) (sa_cons (met_call Z (by exact gd) hr TB rfl (by rw [Z.tb]; first | exact List.mem_cons_self | exact List.mem_cons_of_mem _ List.mem_cons_self) huT (by rfl) (LamX.lamS_by (by decide +kernel)) (by rfl) (fun _ _ _ _ _ => rfl) (fun A2 o2 s2 H2 E2 f2 c2 hr => (se_meth_of sp_callP (by rw [Z.cN]; decide) Z.cls5 Z.me_c20m2 ((ok_c20m2 Z).mono (by decide)) hr Z.d_c20m2 (takes_of rfl rfl rfl rfl) (se_var 1) (sa_cons (se_var 10) (sa_cons se_non sa_nil))))) sa_nil)))
  (sb_cons (ss_expr (se_bm PySem.F.plainAttrs_list PySem.F.slot_list_append PySem.F.type_list_append qt_append ty_list (se_var 11) (sa_cons (met_call Z (by exact gd) hr TB rfl (by rw [Z.tb]; first | exact List.mem_cons_self | exact List.mem_cons_of_mem _ List.mem_cons_self) huT (by rfl) (LamX.lamS_by (by decide +kernel)) (by rfl) (fun _ _ _ _ _ => rfl) (fun A2 o2 s2 H2 E2 f2 c2 hr => (se_meth_of sp_callP (by rw [Z.cN]; decide) Z.cls5 Z.me_c20m2 ((ok_c20m2 Z).mono (by decide)) hr Z.d_c20m2 (takes_of rfl rfl rfl rfl) (se_var 1) (sa_cons se_int (sa_cons (se_var 10) sa_nil))))) sa_nil)))
  (sb_cons (ss_set 12 sc_d45.nd rfl (by first | exact Or.inl rfl | exact Or.inr rfl) (se_new (sf_bin of_catL (se_var 12) (se_lst (sf_rep (sf_lst (sa_cons (se_bin (om_add Z.k) se_str (se_callB (cm_reprD Z.k (by exact gd) (by exact hr.u64)) (by rfl) Z.b_repr (by rfl) (sa_cons (se_var 10) sa_nil))) sa_nil)) se_int)))))
  (sb_cons (ss_for (passes_of rfl) rfl (si_pick (si_tup Z.k (se_tup (sa_cons (se_tup (sa_cons (se_glo 24 (by rfl) Z.n_part (by rw [Z.g_part]; rfl)) (sa_cons (se_var 6) sa_nil))) (sa_cons (se_tup (sa_cons (se_glo 25 (by rfl) Z.n_renamed (by rw [Z.g_renamed]; rfl)) (sa_cons (se_var 7) sa_nil))) (sa_cons (se_tup (sa_cons (se_glo 26 (by rfl) Z.n_recoloured (by rw [Z.g_recoloured]; rfl)) (sa_cons (se_var 8) sa_nil))) sa_nil))))) (si_lst (se_tup (sa_cons (se_tup (sa_cons (se_glo 24 (by rfl) Z.n_part (by rw [Z.g_part]; rfl)) (sa_cons (se_var 6) sa_nil))) (sa_cons (se_tup (sa_cons (se_glo 25 (by rfl) Z.n_renamed (by rw [Z.g_renamed]; rfl)) (sa_cons (se_var 7) sa_nil))) (sa_cons (se_tup (sa_cons (se_glo 26 (by rfl) Z.n_recoloured (by rw [Z.g_recoloured]; rfl)) (sa_cons (se_var 8) sa_nil))) sa_nil)))))) (sg_tup Z.k rfl (sgs_cons (sg_name 13 sc_d45.nd rfl (by first | exact Or.inl rfl | exact Or.inr rfl)) (sgs_cons (sg_name 14 sc_d45.nd rfl (by first | exact Or.inl rfl | exact Or.inr rfl)) sgs_nil)))
  (sb_cons (ss_expr (se_bm PySem.F.plainAttrs_list PySem.F.slot_list_append PySem.F.type_list_append qt_append ty_list (se_var 11) (sa_cons (met_call Z (by exact gd) hr TB rfl (by rw [Z.tb]; first | exact List.mem_cons_self | exact List.mem_cons_of_mem _ List.mem_cons_self) huT (by rfl) (LamX.lamS_by (by decide +kernel)) (by rfl) (fun _ _ _ _ _ => rfl) (fun A2 o2 s2 H2 E2 f2 c2 hr => (se_callV (tb_cons Z.g_beside ((ok_d31 Z).mono (by decide)) Z.f_d31.kp Z.d_d31 (tb_cons Z.g_joined ((ok_d32 Z).mono (by decide)) Z.f_d32.kp Z.d_d32 (tb_cons Z.g_opposite ((ok_d33 Z).mono (by decide)) Z.f_d33.kp Z.d_d33 (tb_cons Z.g_part ((ok_d26 Z).mono (by decide)) Z.f_d26.kp Z.d_d26 (tb_cons Z.g_pieces ((ok_d35 Z).mono (by decide)) Z.f_d35.kp Z.d_d35 (tb_cons Z.g_recoloured ((ok_d28 Z).mono (by decide)) Z.f_d28.kp Z.d_d28 (tb_cons Z.g_renamed ((ok_d27 Z).mono (by decide)) Z.f_d27.kp Z.d_d27 tb_nil))))))) hr rfl (by first | exact Or.inl rfl | exact Or.inr (Or.inl rfl) | exact Or.inr (Or.inr rfl)) (takes_of rfl rfl rfl rfl) (sa_cons (se_var 5) (sa_cons (se_var 14) sa_nil))))) sa_nil)))
  (sb_cons (ss_expr (se_bm PySem.F.plainAttrs_list PySem.F.slot_list_append PySem.F.type_list_append qt_append ty_list (se_var 11) (sa_cons (met_call Z (by exact gd) hr TB rfl (by rw [Z.tb]; first | exact List.mem_cons_self | exact List.mem_cons_of_mem _ List.mem_cons_self) huT (by rfl) (LamX.lamS_by (by decide +kernel)) (by rfl) (fun _ _ _ _ _ => rfl) (fun A2 o2 s2 H2 E2 f2 c2 hr => (se_callV (tb_cons Z.g_beside ((ok_d31 Z).mono (by decide)) Z.f_d31.kp Z.d_d31 (tb_cons Z.g_joined ((ok_d32 Z).mono (by decide)) Z.f_d32.kp Z.d_d32 (tb_cons Z.g_opposite ((ok_d33 Z).mono (by decide)) Z.f_d33.kp Z.d_d33 (tb_cons Z.g_part ((ok_d26 Z).mono (by decide)) Z.f_d26.kp Z.d_d26 (tb_cons Z.g_pieces ((ok_d35 Z).mono (by decide)) Z.f_d35.kp Z.d_d35 (tb_cons Z.g_recoloured ((ok_d28 Z).mono (by decide)) Z.f_d28.kp Z.d_d28 (tb_cons Z.g_renamed ((ok_d27 Z).mono (by decide)) Z.f_d27.kp Z.d_d27 tb_nil))))))) hr rfl (by first | exact Or.inl rfl | exact Or.inr (Or.inl rfl) | exact Or.inr (Or.inr rfl)) (takes_of rfl rfl rfl rfl) (sa_cons (se_var 1) (sa_cons (se_var 14) sa_nil))))) sa_nil)))
  (sb_one (ss_set 12 sc_d45.nd rfl (by first | exact Or.inl rfl | exact Or.inr rfl) (se_new (sf_bin of_catL (se_var 12) (se_lst (sf_lst (sa_cons se_str (sa_cons se_str sa_nil)))))))))))
  (sb_cons (ss_for (passes_of rfl) rfl (si_pick (si_tup Z.k (se_tup (sa_cons (se_glo 29 (by rfl) Z.n_beside (by rw [Z.g_beside]; rfl)) (sa_cons (se_glo 30 (by rfl) Z.n_joined (by rw [Z.g_joined]; rfl)) sa_nil)))) (si_lst (se_tup (sa_cons (se_glo 29 (by rfl) Z.n_beside (by rw [Z.g_beside]; rfl)) (sa_cons (se_glo 30 (by rfl) Z.n_joined (by rw [Z.g_joined]; rfl)) sa_nil))))) (sg_name 13 sc_d45.nd rfl (by first | exact Or.inl rfl | exact Or.inr rfl))
  (sb_cons (ss_expr (se_bm PySem.F.plainAttrs_list PySem.F.slot_list_append PySem.F.type_list_append qt_append ty_list (se_var 11) (sa_cons (met_call Z (by exact gd) hr TB rfl (by rw [Z.tb]; first | exact List.mem_cons_self | exact List.mem_cons_of_mem _ List.mem_cons_self) huT (by rfl) (LamX.lamS_by (by decide +kernel)) (by rfl) (fun _ _ _ _ _ => rfl) (fun A2 o2 s2 H2 E2 f2 c2 hr => (se_callV (tb_cons Z.g_beside ((ok_d31 Z).mono (by decide)) Z.f_d31.kp Z.d_d31 (tb_cons Z.g_joined ((ok_d32 Z).mono (by decide)) Z.f_d32.kp Z.d_d32 (tb_cons Z.g_opposite ((ok_d33 Z).mono (by decide)) Z.f_d33.kp Z.d_d33 (tb_cons Z.g_part ((ok_d26 Z).mono (by decide)) Z.f_d26.kp Z.d_d26 (tb_cons Z.g_pieces ((ok_d35 Z).mono (by decide)) Z.f_d35.kp Z.d_d35 (tb_cons Z.g_recoloured ((ok_d28 Z).mono (by decide)) Z.f_d28.kp Z.d_d28 (tb_cons Z.g_renamed ((ok_d27 Z).mono (by decide)) Z.f_d27.kp Z.d_d27 tb_nil))))))) hr rfl (by first | exact Or.inl rfl | exact Or.inr (Or.inl rfl) | exact Or.inr (Or.inr rfl)) (takes_of rfl rfl rfl rfl) (sa_cons (se_var 5) (sa_cons (se_var 5) sa_nil))))) sa_nil)))
  (sb_cons (ss_expr (se_bm PySem.F.plainAttrs_list PySem.F.slot_list_append PySem.F.type_list_append qt_append ty_list (se_var 11) (sa_cons (met_call Z (by exact gd) hr TB rfl (by rw [Z.tb]; first | exact List.mem_cons_self | exact List.mem_cons_of_mem _ List.mem_cons_self) huT (by rfl) (LamX.lamS_by (by decide +kernel)) (by rfl) (fun _ _ _ _ _ => rfl) (fun A2 o2 s2 H2 E2 f2 c2 hr => (se_callV (tb_cons Z.g_beside ((ok_d31 Z).mono (by decide)) Z.f_d31.kp Z.d_d31 (tb_cons Z.g_joined ((ok_d32 Z).mono (by decide)) Z.f_d32.kp Z.d_d32 (tb_cons Z.g_opposite ((ok_d33 Z).mono (by decide)) Z.f_d33.kp Z.d_d33 (tb_cons Z.g_part ((ok_d26 Z).mono (by decide)) Z.f_d26.kp Z.d_d26 (tb_cons Z.g_pieces ((ok_d35 Z).mono (by decide)) Z.f_d35.kp Z.d_d35 (tb_cons Z.g_recoloured ((ok_d28 Z).mono (by decide)) Z.f_d28.kp Z.d_d28 (tb_cons Z.g_renamed ((ok_d27 Z).mono (by decide)) Z.f_d27.kp Z.d_d27 tb_nil))))))) hr rfl (by first | exact Or.inl rfl | exact Or.inr (Or.inl rfl) | exact Or.inr (Or.inr rfl)) (takes_of rfl rfl rfl rfl) (sa_cons (se_var 1) (sa_cons (se_var 5) sa_nil))))) sa_nil)))
  (sb_one (ss_set 12 sc_d45.nd rfl (by first | exact Or.inl rfl | exact Or.inr rfl) (se_new (sf_bin of_catL (se_var 12) (se_lst (sf_lst (sa_cons se_str (sa_cons se_str sa_nil)))))))))))
  (sb_cons (ss_for (passes_of rfl) rfl (si_pick (si_tup Z.k (se_tup (sa_cons (se_glo 31 (by rfl) Z.n_opposite (by rw [Z.g_opposite]; rfl)) (sa_cons (se_glo 33 (by rfl) Z.n_pieces (by rw [Z.g_pieces]; rfl)) sa_nil)))) (si_lst (se_tup (sa_cons (se_glo 31 (by rfl) Z.n_opposite (by rw [Z.g_opposite]; rfl)) (sa_cons (se_glo 33 (by rfl) Z.n_pieces (by rw [Z.g_pieces]; rfl)) sa_nil))))) (sg_name 13 sc_d45.nd rfl (by first | exact Or.inl rfl | exact Or.inr rfl))
  (sb_cons (ss_expr (se_bm PySem.F.plainAttrs_list PySem.F.slot_list_append PySem.F.type_list_append qt_append ty_list (se_var 11) (sa_cons (met_call Z (by exact gd) hr TB rfl (by rw [Z.tb]; first | exact List.mem_cons_self | exact List.mem_cons_of_mem _ List.mem_cons_self) huT (by rfl) (LamX.lamS_by (by decide +kernel)) (by rfl) (fun _ _ _ _ _ => rfl) (fun A2 o2 s2 H2 E2 f2 c2 hr => (se_callV (tb_cons Z.g_beside ((ok_d31 Z).mono (by decide)) Z.f_d31.kp Z.d_d31 (tb_cons Z.g_joined ((ok_d32 Z).mono (by decide)) Z.f_d32.kp Z.d_d32 (tb_cons Z.g_opposite ((ok_d33 Z).mono (by decide)) Z.f_d33.kp Z.d_d33 (tb_cons Z.g_part ((ok_d26 Z).mono (by decide)) Z.f_d26.kp Z.d_d26 (tb_cons Z.g_pieces ((ok_d35 Z).mono (by decide)) Z.f_d35.kp Z.d_d35 (tb_cons Z.g_recoloured ((ok_d28 Z).mono (by decide)) Z.f_d28.kp Z.d_d28 (tb_cons Z.g_renamed ((ok_d27 Z).mono (by decide)) Z.f_d27.kp Z.d_d27 tb_nil))))))) hr rfl (by first | exact Or.inl rfl | exact Or.inr (Or.inl rfl) | exact Or.inr (Or.inr rfl)) (takes_of rfl rfl rfl rfl) (sa_cons (se_var 5) sa_nil)))) sa_nil)))
  (sb_one (ss_expr (se_bm PySem.F.plainAttrs_list PySem.F.slot_list_append PySem.F.type_list_append qt_append ty_list (se_var 12) (sa_cons se_str sa_nil))))))
  (sb_cons (ss_expr (se_bm PySem.F.plainAttrs_list PySem.F.slot_list_append PySem.F.type_list_append qt_append ty_list (se_var 11) (sa_cons (met_call Z (by exact gd) hr TB rfl (by rw [Z.tb]; first | exact List.mem_cons_self | exact List.mem_cons_of_mem _ List.mem_cons_self) huT (by rfl) (LamX.lamS_by (by decide +kernel)) (by rfl) (fun _ _ _ _ _ => rfl) (fun A2 o2 s2 H2 E2 f2 c2 hr => (se_callP ((ok_d36 Z).mono (by decide)) hr (by rfl) Z.n_is_row Z.f_d36.kp Z.d_d36 (takes_of rfl rfl rfl rfl) (sa_cons (se_var 5) (sa_cons (se_var 9) sa_nil))))) sa_nil)))
  (sb_cons (ss_expr (se_bm PySem.F.plainAttrs_list PySem.F.slot_list_append PySem.F.type_list_append qt_append ty_list (se_var 11) (sa_cons (met_call Z (by exact gd) hr TB rfl (by rw [Z.tb]; first | exact List.mem_cons_self | exact List.mem_cons_of_mem _ List.mem_cons_self) huT (by rfl) (LamX.lamS_by (by decide +kernel)) (by rfl) (fun _ _ _ _ _ => rfl) (fun A2 o2 s2 H2 E2 f2 c2 hr => (se_callP ((ok_d38 Z).mono (by decide)) hr (by rfl) Z.n_atom_of Z.f_d38.kp Z.d_d38 (takes_of rfl rfl rfl rfl) (sa_cons (se_var 5) (sa_cons (se_var 9) sa_nil))))) sa_nil)))
  (sb_cons (ss_expr (se_bm PySem.F.plainAttrs_list PySem.F.slot_list_append PySem.F.type_list_append qt_append ty_list (se_var 11) (sa_cons (met_call Z (by exact gd) hr TB rfl (by rw [Z.tb]; first | exact List.mem_cons_self | exact List.mem_cons_of_mem _ List.mem_cons_self) huT (by rfl) (LamX.lamS_by (by decide +kernel)) (by rfl) (fun _ _ _ _ _ => rfl) (fun A2 o2 s2 H2 E2 f2 c2 hr => (se_callP ((ok_d38 Z).mono (by decide)) hr (by rfl) Z.n_atom_of Z.f_d38.kp Z.d_d38 (takes_of rfl rfl rfl rfl) (sa_cons (se_var 1) (sa_cons (se_var 9) sa_nil))))) sa_nil)))
  (sb_cons (ss_expr (se_bm PySem.F.plainAttrs_list PySem.F.slot_list_append PySem.F.type_list_append qt_append ty_list (se_var 11) (sa_cons (met_call Z (by exact gd) hr TB rfl (by rw [Z.tb]; first | exact List.mem_cons_self | exact List.mem_cons_of_mem _ List.mem_cons_self) huT (by rfl) (LamX.lamS_by (by decide +kernel)) (by rfl) (fun _ _ _ _ _ => rfl) (fun A2 o2 s2 H2 E2 f2 c2 hr => (se_callP ((ok_d39 Z).mono (by decide)) hr (by rfl) Z.n_are_like Z.f_d39.kp Z.d_d39 (takes_of rfl rfl rfl rfl) (sa_cons (se_var 5) (sa_cons (se_var 9) (sa_cons (se_var 5) (sa_cons (se_var 9) sa_nil))))))) sa_nil)))
  (sb_cons (ss_expr (se_bm PySem.F.plainAttrs_list PySem.F.slot_list_append PySem.F.type_list_append qt_append ty_list (se_var 11) (sa_cons (met_call Z (by exact gd) hr TB rfl (by rw [Z.tb]; first | exact List.mem_cons_self | exact List.mem_cons_of_mem _ List.mem_cons_self) huT (by rfl) (LamX.lamS_by (by decide +kernel)) (by rfl) (fun _ _ _ _ _ => rfl) (fun A2 o2 s2 H2 E2 f2 c2 hr => (se_callP ((ok_d39 Z).mono (by decide)) hr (by rfl) Z.n_are_like Z.f_d39.kp Z.d_d39 (takes_of rfl rfl rfl rfl) (sa_cons (se_var 1) (sa_cons (se_var 9) (sa_cons (se_var 5) (sa_cons (se_var 9) sa_nil))))))) sa_nil)))
  (sb_cons (ss_expr (se_bm PySem.F.plainAttrs_list PySem.F.slot_list_append PySem.F.type_list_append qt_append ty_list (se_var 11) (sa_cons (met_call Z (by exact gd) hr TB rfl (by rw [Z.tb]; first | exact List.mem_cons_self | exact List.mem_cons_of_mem _ List.mem_cons_self) huT (by rfl) (LamX.lamS_by (by decide +kernel)) (by rfl) (fun _ _ _ _ _ => rfl) (fun A2 o2 s2 H2 E2 f2 c2 hr => (se_callP ((ok_d39 Z).mono (by decide)) hr (by rfl) Z.n_are_like Z.f_d39.kp Z.d_d39 (takes_of rfl rfl rfl rfl) (sa_cons (se_var 1) (sa_cons (se_tup (sa_cons se_int sa_nil)) (sa_cons (se_var 5) (sa_cons (se_var 9) sa_nil))))))) sa_nil)))
  (sb_cons (ss_expr (se_bm PySem.F.plainAttrs_list PySem.F.slot_list_append PySem.F.type_list_append qt_append ty_list (se_var 11) (sa_cons (met_call Z (by exact gd) hr TB rfl (by rw [Z.tb]; first | exact List.mem_cons_self | exact List.mem_cons_of_mem _ List.mem_cons_self) huT (by rfl) (LamX.lamS_by (by decide +kernel)) (by rfl) (fun _ _ _ _ _ => rfl) (fun A2 o2 s2 H2 E2 f2 c2 hr => (se_callP ((ok_d39 Z).mono (by decide)) hr (by rfl) Z.n_are_like Z.f_d39.kp Z.d_d39 (takes_of rfl rfl rfl rfl) (sa_cons (se_var 1) (sa_cons (se_tup (sa_cons se_int sa_nil)) (sa_cons (se_var 1) (sa_cons (se_var 9) sa_nil))))))) sa_nil)))
  (sb_cons (ss_set 12 sc_d45.nd rfl (by first | exact Or.inl rfl | exact Or.inr rfl) (se_new (sf_bin of_catL (se_var 12) (se_lst (sf_lst (sa_cons se_str (sa_cons se_str (sa_cons se_str (sa_cons se_str (sa_cons se_str (sa_cons se_str (sa_cons se_str sa_nil))))))))))))
  (sb_one (ss_ret (se_and (se_cmp (om_eqD Z.k hr.u64) (se_var 11) (se_lst (sf_lc (own := [("word", 15)]) rfl sc_d45.nd (si_pick (si_tup Z.k (se_var 12)) (si_lst (se_var 12))) (show blkC ["turn", "web", "colours", "ties", "bad", "none", "points", "names", "shades", "row", "point", "told", "due", "call", "value", "word"] (defScope s_d45) _ _ = true from by decide +kernel) (fun s H C cl fp => (sg_name 15 sc_d45.nd rfl (by first | exact Or.inl rfl | exact Or.inr rfl))) (fun s H C cl fp => sts_nil) (fun s H C cl fp => (se_tup (sa_cons se_str (sa_cons (se_var 15) sa_nil)))) (by decide))) (nomark _)) (se_one (se_not (se_callP ((ok_d36 Z).mono (by decide)) hr (by rfl) Z.n_is_row Z.f_d36.kp Z.d_d36 (takes_of rfl rfl rfl rfl) (sa_cons (se_var 1) (sa_cons (se_var 9) sa_nil))))))))))))))))))))))))))))))))))))))))))
theorem okG_d46 (Z : Fx P w K mg base T ad fd cv bm) (TB_law_right : LamX.TabB base mg (ad 37) (ad 38)) (TBlaw : LamX.TabB base mg (ad 39) (ad 40)) : FnG P w K mg base (L2.CX P w) 11 (ad 33) (fd 33) ["script"] (spM T 1 (mFn 8 m_d46)) :=
  have TB := TBlaw
  have huT : ∀ p ∈ T.tb, p.1 = ad 40 → p.2 = (("law" : Str) ++ ".<locals>.") ++ "<lambda>" := by
    rw [Z.tb]
    intro p hp e
    simp only [List.mem_cons, List.not_mem_nil, or_false] at hp
    rcases hp with rfl | rfl
    · exact absurd e Z.tne
    · rfl
  fg_mkC Z.f_d46 sc_d46 Z.co_law fun A outer s H E gd hr => (sb_cons (ss_for (passes_of rfl) rfl (si_range1 (by rfl) Z.b_range (sa_cons (se_callB (cm_max2 rfl) (by rfl) Z.b_max (by rfl) (sa_cons se_int (sa_cons (se_callB (cm_min2 rfl) (by rfl) Z.b_min (by rfl) (sa_cons se_int (sa_cons (se_callB ((cm_len Z.k).or (cm_lenI (by rw [Z.cN]; decide) Z.len5 ((ok_c20m3 Z).mono (by decide)) hr Z.d_c20m3)) (by rfl) Z.b_len (by rfl) (sa_cons (se_var 0) sa_nil)) sa_nil))) sa_nil))) sa_nil)) (sg_name 1 sc_d46.nd rfl (by first | exact Or.inl rfl | exact Or.inr rfl))
  (sb_cons (ss_set 2 sc_d46.nd rfl (by first | exact Or.inl rfl | exact Or.inr rfl) (se_tr0 (se_call ((ok_d42 Z).mono (by decide)) hr (by rfl) Z.n__law_wb_toss Z.f_d42.kp Z.d_d42 (takes_of rfl rfl rfl rfl) (sa_cons (se_call ((ok_d41 Z).mono (by decide)) hr (by rfl) Z.n__law_wb_pot Z.f_d41.kp Z.d_d41 (takes_of rfl rfl rfl rfl) (sa_cons (se_var 0) (sa_cons (se_var 1) sa_nil))) (sa_cons se_int sa_nil)))))
  (sb_one (ss_for (passes_of rfl) rfl (si_range1 (by rfl) Z.b_range (sa_cons se_int sa_nil)) (sg_name 3 sc_d46.nd rfl (by first | exact Or.inl rfl | exact Or.inr rfl))
  (sb_one (ss_if (st_not (st_val (se_callGP ((okG_d45 Z TB_law_right TBlaw).mono (by decide)) (by exact gd) hr (by rfl) Z.n__law_right Z.f_d45.kp Z.d_d45 (takes_of rfl rfl rfl rfl) (sa_cons (se_bin (om_add Z.k) (se_var 2) (se_var 3)) sa_nil))))
  (sb_one (ss_ret se_bl))
  sb_nil))))))
  (sb_cons (ss_asg (se_tup (sa_cons (se_make (cl := 5) (nf := 4) (by rw [Z.cN]; rfl) Z.mk5 ((ok_c20m0 Z).mono (by decide)) hr (by rfl) Z.n_Web Z.d_c20m0 (takes_of rfl rfl rfl rfl) (sa_cons (se_bin (om_mulW.or (om_repW Z.k)) (se_tup (sa_cons se_int (sa_cons (se_neg se_int) sa_nil))) se_int) (sa_cons (se_tup (sa_cons (se_tup (sa_cons se_int (sa_cons se_int sa_nil))) sa_nil)) sa_nil))) (sa_cons (se_make (cl := 5) (nf := 4) (by rw [Z.cN]; rfl) Z.mk5 ((ok_c20m0 Z).mono (by decide)) hr (by rfl) Z.n_Web Z.d_c20m0 (takes_of rfl rfl rfl rfl) (sa_cons (se_tup (sa_cons se_int sa_nil)) (sa_cons (se_tup sa_nil) sa_nil))) sa_nil))) (sg_tup Z.k rfl (sgs_cons (sg_name 4 sc_d46.nd rfl (by first | exact Or.inl rfl | exact Or.inr rfl)) (sgs_cons (sg_name 5 sc_d46.nd rfl (by first | exact Or.inl rfl | exact Or.inr rfl)) sgs_nil))))
  (sb_cons (ss_set 6 sc_d46.nd rfl (by first | exact Or.inl rfl | exact Or.inr rfl) (se_new (sf_lst (sa_cons (met_call Z (by exact gd) hr TB rfl (by rw [Z.tb]; first | exact List.mem_cons_self | exact List.mem_cons_of_mem _ List.mem_cons_self) huT (by rfl) (LamX.lamS_by (by decide +kernel)) (by rfl) (fun _ _ _ _ _ => rfl) (fun A2 o2 s2 H2 E2 f2 c2 hr => (se_callP ((ok_d31 Z).mono (by decide)) hr (by rfl) Z.n_beside Z.f_d31.kp Z.d_d31 (takes_of rfl rfl rfl rfl) (sa_cons (se_var 4) (sa_cons (se_var 5) sa_nil))))) sa_nil))))
  (sb_cons (ss_expr (se_bm PySem.F.plainAttrs_list PySem.F.slot_list_append PySem.F.type_list_append qt_append ty_list (se_var 6) (sa_cons (met_call Z (by exact gd) hr TB rfl (by rw [Z.tb]; first | exact List.mem_cons_self | exact List.mem_cons_of_mem _ List.mem_cons_self) huT (by rfl) (LamX.lamS_by (by decide +kernel)) (by rfl) (fun _ _ _ _ _ => rfl) (fun A2 o2 s2 H2 E2 f2 c2 hr => (se_callP ((ok_d32 Z).mono (by decide)) hr (by rfl) Z.n_joined Z.f_d32.kp Z.d_d32 (takes_of rfl rfl rfl rfl) (sa_cons (se_var 4) (sa_cons (se_var 5) sa_nil))))) sa_nil)))
  (sb_cons (ss_expr (se_bm PySem.F.plainAttrs_list PySem.F.slot_list_append PySem.F.type_list_append qt_append ty_list (se_var 6) (sa_cons (met_call Z (by exact gd) hr TB rfl (by rw [Z.tb]; first | exact List.mem_cons_self | exact List.mem_cons_of_mem _ List.mem_cons_self) huT (by rfl) (LamX.lamS_by (by decide +kernel)) (by rfl) (fun _ _ _ _ _ => rfl) (fun A2 o2 s2 H2 E2 f2 c2 hr => (se_callP ((ok_d32 Z).mono (by decide)) hr (by rfl) Z.n_joined Z.f_d32.kp Z.d_d32 (takes_of rfl rfl rfl rfl) (sa_cons (se_var 5) (sa_cons (se_var 4) sa_nil))))) sa_nil)))
  (sb_cons (ss_expr (se_bm PySem.F.plainAttrs_list PySem.F.slot_list_append PySem.F.type_list_append qt_append ty_list (se_var 6) (sa_cons (met_call Z (by exact gd) hr TB rfl (by rw [Z.tb]; first | exact List.mem_cons_self | exact List.mem_cons_of_mem _ List.mem_cons_self) huT (by rfl) (LamX.lamS_by (by decide +kernel)) (by rfl) (fun _ _ _ _ _ => rfl) (fun A2 o2 s2 H2 E2 f2 c2 hr => (se_callP ((ok_d31 Z).mono (by decide)) hr (by rfl) Z.n_beside Z.f_d31.kp Z.d_d31 (takes_of rfl rfl rfl rfl) (sa_cons (se_var 4) (sa_cons (se_make (cl := 5) (nf := 4) (by rw [Z.cN]; rfl) Z.mk5 ((ok_c20m0 Z).mono (by decide)) hr (by rfl) Z.n_Web Z.d_c20m0 (takes_of rfl rfl rfl rfl) (sa_cons (se_tup sa_nil) (sa_cons (se_tup sa_nil) sa_nil))) sa_nil))))) sa_nil)))
  (sb_cons (ss_expr (se_bm PySem.F.plainAttrs_list PySem.F.slot_list_append PySem.F.type_list_append qt_append ty_list (se_var 6) (sa_cons (met_call Z (by exact gd) hr TB rfl (by rw [Z.tb]; first | exact List.mem_cons_self | exact List.mem_cons_of_mem _ List.mem_cons_self) huT (by rfl) (LamX.lamS_by (by decide +kernel)) (by rfl) (fun _ _ _ _ _ => rfl) (fun A2 o2 s2 H2 E2 f2 c2 hr => (se_callP ((ok_d38 Z).mono (by decide)) hr (by rfl) Z.n_atom_of Z.f_d38.kp Z.d_d38 (takes_of rfl rfl rfl rfl) (sa_cons (se_var 4) (sa_cons (se_tup (sa_cons se_int (sa_cons se_int (sa_cons se_int (sa_cons se_int sa_nil))))) sa_nil))))) sa_nil)))
  (sb_cons (ss_expr (se_bm PySem.F.plainAttrs_list PySem.F.slot_list_append PySem.F.type_list_append qt_append ty_list (se_var 6) (sa_cons (met_call Z (by exact gd) hr TB rfl (by rw [Z.tb]; first | exact List.mem_cons_self | exact List.mem_cons_of_mem _ List.mem_cons_self) huT (by rfl) (LamX.lamS_by (by decide +kernel)) (by rfl) (fun _ _ _ _ _ => rfl) (fun A2 o2 s2 H2 E2 f2 c2 hr => (se_callP ((ok_d26 Z).mono (by decide)) hr (by rfl) Z.n_part Z.f_d26.kp Z.d_d26 (takes_of rfl rfl rfl rfl) (sa_cons (se_var 4) (sa_cons (se_tup sa_nil) sa_nil))))) sa_nil)))
  (sb_cons (ss_expr (se_bm PySem.F.plainAttrs_list PySem.F.slot_list_append PySem.F.type_list_append qt_append ty_list (se_var 6) (sa_cons (met_call Z (by exact gd) hr TB rfl (by rw [Z.tb]; first | exact List.mem_cons_self | exact List.mem_cons_of_mem _ List.mem_cons_self) huT (by rfl) (LamX.lamS_by (by decide +kernel)) (by rfl) (fun _ _ _ _ _ => rfl) (fun A2 o2 s2 H2 E2 f2 c2 hr => (se_callP ((ok_d27 Z).mono (by decide)) hr (by rfl) Z.n_renamed Z.f_d27.kp Z.d_d27 (takes_of rfl rfl rfl rfl) (sa_cons (se_make (cl := 5) (nf := 4) (by rw [Z.cN]; rfl) Z.mk5 ((ok_c20m0 Z).mono (by decide)) hr (by rfl) Z.n_Web Z.d_c20m0 (takes_of rfl rfl rfl rfl) (sa_cons (se_tup sa_nil) (sa_cons (se_tup sa_nil) sa_nil))) (sa_cons (se_tup sa_nil) sa_nil))))) sa_nil)))
  (sb_one (ss_ret (se_cmp (om_eqD Z.k hr.u64) (se_var 6) (se_lst (sf_lc (own := [("word", 7)]) rfl sc_d46.nd (si_pick (si_tup Z.k (se_bin (om_add Z.k) (se_lst (sf_rep (sf_lst (sa_cons se_str sa_nil)) se_int)) (se_lst (sf_rep (sf_lst (sa_cons se_str sa_nil)) se_int)))) (si_lst (se_bin (om_add Z.k) (se_lst (sf_rep (sf_lst (sa_cons se_str sa_nil)) se_int)) (se_lst (sf_rep (sf_lst (sa_cons se_str sa_nil)) se_int))))) (show blkC ["script", "spot", "shift", "turn", "most", "lone", "told", "word"] (defScope s_d46) _ _ = true from by decide +kernel) (fun s H C cl fp => (sg_name 7 sc_d46.nd rfl (by first | exact Or.inl rfl | exact Or.inr rfl))) (fun s H C cl fp => sts_nil) (fun s H C cl fp => (se_tup (sa_cons se_str (sa_cons (se_var 7) sa_nil)))) (by decide))) (nomark _)))))))))))))
theorem ok_c20m4 (Z : Fx P w K mg base T ad fd cv bm) : FnOk P w K mg base (L2.CX P w) 3 (ad 34) (fd 34) ["self", "value"] (spM T 2 (mFn 2 m_c20m4)) :=
  fn_mk Z.f_c20m4 sc_c20m4 fun cdv A outer s H E hr => (sb_one (ss_ret (se_callP ((ok_d8 Z).mono (by decide)) hr (by rfl) Z.n_is_between Z.f_d8.kp Z.d_d8 (takes_of rfl rfl rfl rfl) (sa_cons (se_var 1) (sa_cons se_int (sa_cons (se_bin om_subI (se_callB ((cm_len Z.k).or (cm_lenI (by rw [Z.cN]; decide) Z.len5 ((ok_c20m3 Z).mono (by decide)) hr Z.d_c20m3)) (by rfl) Z.b_len (by rfl) (sa_cons (se_fld 5 0 Z.cls5 Z.na5_colours (by rw [Z.cN]; decide) (by rw [Z.cN]; rfl) (se_var 0)) sa_nil)) se_int) sa_nil))))))
theorem ok_c20m5 (Z : Fx P w K mg base T ad fd cv bm) : FnOk P w K mg base (L2.CX P w) 1 (ad 35) (fd 35) ["self", "other"] (spM T 2 (mFn 2 m_c20m5)) :=
  fn_mk Z.f_c20m5 sc_c20m5 fun cdv A outer s H E hr => (sb_one (ss_ret (se_and (se_callB (cm_isi Z.k (Z.isi rfl)) (by rfl) Z.b_isinstance (by rfl) (sa_cons (se_var 1) (sa_cons (se_glo 12 (by rfl) Z.n_Web (by rw [Z.g_Web]; rfl)) sa_nil))) (se_and (se_cmp (om_eqD Z.k hr.u64) (se_fld 5 0 Z.cls5 Z.na5_colours (by rw [Z.cN]; decide) (by rw [Z.cN]; rfl) (se_var 0)) (se_fld 5 0 Z.cls5 Z.na5_colours (by rw [Z.cN]; decide) (by rw [Z.cN]; rfl) (se_var 1)) (nomark _)) (se_one (se_cmp (om_eqD Z.k hr.u64) (se_fld 5 1 Z.cls5 Z.na5_ties (by rw [Z.cN]; decide) (by rw [Z.cN]; rfl) (se_var 0)) (se_fld 5 1 Z.cls5 Z.na5_ties (by rw [Z.cN]; decide) (by rw [Z.cN]; rfl) (se_var 1)) (nomark _)))))))
end
end G

namespace G
open PySem PySem.Spec PyProof.Rows L2 M
abbrev s_i3 : Stmt := inClass (topS 5) 0
theorem sc_i3 : FnScope ["self", "given"] ["self", "given"] (defScope s_i3) := ⟨rfl, rfl, rfl, by decide +kernel, rfl, by decide +kernel, by decide +kernel⟩
abbrev s_i4 : Stmt := inClass (topS 6) 0
theorem sc_i4 : FnScope ["self", "most"] ["self", "most"] (defScope s_i4) := ⟨rfl, rfl, rfl, by decide +kernel, rfl, by decide +kernel, by decide +kernel⟩
def gU (cs : List Nat) (n : Nat) : Value := match n with
  | 0 => .type "int"
  | 1 => .type "bool"
  | 2 => .type "tuple"
  | 3 => .type "list"
  | 4 => .type "dict"
  | 5 => .type "str"
  | 12 => .ref (cs.getD 5 0)
  | _ => .none
section
theorem in_i3 {P : Program} {w : World} {K : PySem.W.Frag} {mg : Str → Option Value} {base : Heap} {f B C : Addr} {fd : FuncData} (F : Fun K "__init__" "InvalidNumber.__init__" s_i3 f fd) (hm : mg "FiveError" = some (.ref B))
    (sg : PySem.W.specialIn K (.ref B) "__getattribute__" = some (some (.builtin "type.__getattribute__"))) (ty : PySem.W.typeIn K (.ref B) = some (.type "type")) (rd : PySem.W.readsIn K B (.type "type") = true)
    (fc : PySem.W.findCls K (.ref B) (.type "type") "__init__" = some (.val (.builtin "ValueError.__init__"))) (OC : OexC K C) (no : PySem.W.findIn K (.ref C) "given" = some none) :
    FnOk P w K mg base (L2.CX P w) 2 f fd ["self", "given"] (spI C "given") := by
  refine F.okX sc_i3 (fun vs H Q E h => ?_) (fun cdv A outer s H vs Q E hr h => ?_)
  · obtain ⟨a, v, rfl, _⟩ := h
    rfl
  · obtain ⟨a, v, rfl, ea, h⟩ := h
    refine ⟨_, pss_cons (ps_expr (pe_binit (by rfl) hm sg ty rd fc (pa_cons (pv 0) (pa_cons pe_str pa_nil)))) (pss_one (ps_ost (pv 0) (pv 1))), ?_⟩
    exact ⟨.ref a, rfl, a, C, [_], rfl, by simp, OC, ea, v, rfl, .ref a, rfl, a, C, rfl, OC, no, .inl ⟨ea, h⟩⟩
theorem in_i4 {P : Program} {w : World} {K : PySem.W.Frag} {mg : Str → Option Value} {base : Heap} {f B C : Addr} {fd : FuncData} (F : Fun K "__init__" "TooMany.__init__" s_i4 f fd) (hm : mg "FiveError" = some (.ref B))
    (sg : PySem.W.specialIn K (.ref B) "__getattribute__" = some (some (.builtin "type.__getattribute__"))) (ty : PySem.W.typeIn K (.ref B) = some (.type "type")) (rd : PySem.W.readsIn K B (.type "type") = true)
    (fc : PySem.W.findCls K (.ref B) (.type "type") "__init__" = some (.val (.builtin "ValueError.__init__"))) (OC : OexC K C) (no : PySem.W.findIn K (.ref C) "most" = some none) :
    FnOk P w K mg base (L2.CX P w) 2 f fd ["self", "most"] (spI C "most") := by
  refine F.okX sc_i4 (fun vs H Q E h => ?_) (fun cdv A outer s H vs Q E hr h => ?_)
  · obtain ⟨a, v, rfl, _⟩ := h
    rfl
  · obtain ⟨a, v, rfl, ea, h⟩ := h
    refine ⟨_, pss_cons (ps_expr (pe_binit (by rfl) hm sg ty rd fc (pa_cons (pv 0) (pa_cons pe_str pa_nil)))) (pss_one (ps_ost (pv 0) (pv 1))), ?_⟩
    exact ⟨.ref a, rfl, a, C, [_], rfl, by simp, OC, ea, v, rfl, .ref a, rfl, a, C, rfl, OC, no, .inl ⟨ea, h⟩⟩
end
section
theorem end_mk {l : PySem.W.OpenLaw} {w : World} {K : PySem.W.Frag} {h : Heap} {mg : Str → Option Value} {fa : Addr}
    {c0 : Addr}
    {c1 : Addr}
    {c2 : Addr}
    {c3 : Addr}
    {c4 : Addr}
    {c5 : Addr}
    {c6 : Addr}
    {a0 : Addr}
    {a1 : Addr}
    {a2 : Addr}
    {a3 : Addr}
    {a4 : Addr}
    {a5 : Addr}
    {a6 : Addr}
    {a7 : Addr}
    {a8 : Addr}
    {a9 : Addr}
    {a10 : Addr}
    {a11 : Addr}
    {a12 : Addr}
    {a13 : Addr}
    {a14 : Addr}
    {a15 : Addr}
    {a16 : Addr}
    {a17 : Addr}
    {a18 : Addr}
    {a19 : Addr}
    {a20 : Addr}
    {a21 : Addr}
    {a22 : Addr}
    {a23 : Addr}
    {a24 : Addr}
    {a25 : Addr}
    {a26 : Addr}
    {a27 : Addr}
    {a28 : Addr}
    {a29 : Addr}
    {a30 : Addr}
    {a31 : Addr}
    {a32 : Addr}
    {a33 : Addr}
    {a34 : Addr}
    {a35 : Addr}
    {a36 : Addr}
    {a37 : Addr}
    {a38 : Addr}
    {a39 : Addr}
    {a40 : Addr}
    {a41 : Addr}
    {a42 : Addr}
    {oc0 kV0 dc0 pm0 ct0 cd0 : Value} {od0 an0 : Option Addr} {sl0 : Array (Option Value)}
    {oc1 kV1 dc1 pm1 ct1 cd1 : Value} {od1 an1 : Option Addr} {sl1 : Array (Option Value)}
    {oc2 kV2 dc2 pm2 ct2 cd2 : Value} {od2 an2 : Option Addr} {sl2 : Array (Option Value)}
    {oc3 kV3 dc3 pm3 ct3 cd3 : Value} {od3 an3 : Option Addr} {sl3 : Array (Option Value)}
    {oc4 kV4 dc4 pm4 ct4 cd4 : Value} {od4 an4 : Option Addr} {sl4 : Array (Option Value)}
    {oc5 kV5 dc5 pm5 ct5 cd5 : Value} {od5 an5 : Option Addr} {sl5 : Array (Option Value)}
    {oc6 kV6 dc6 pm6 ct6 cd6 : Value} {od6 an6 : Option Addr} {sl6 : Array (Option Value)}
    {oc7 kV7 dc7 pm7 ct7 cd7 : Value} {od7 an7 : Option Addr} {sl7 : Array (Option Value)}
    {oc8 kV8 dc8 pm8 ct8 cd8 : Value} {od8 an8 : Option Addr} {sl8 : Array (Option Value)}
    {oc9 kV9 dc9 pm9 ct9 cd9 : Value} {od9 an9 : Option Addr} {sl9 : Array (Option Value)}
    {oc10 kV10 dc10 pm10 ct10 cd10 : Value} {od10 an10 : Option Addr} {sl10 : Array (Option Value)}
    {oc11 kV11 dc11 pm11 ct11 cd11 : Value} {od11 an11 : Option Addr} {sl11 : Array (Option Value)}
    {oc12 kV12 dc12 pm12 ct12 cd12 : Value} {od12 an12 : Option Addr} {sl12 : Array (Option Value)}
    {oc13 kV13 dc13 pm13 ct13 cd13 : Value} {od13 an13 : Option Addr} {sl13 : Array (Option Value)}
    {oc14 kV14 dc14 pm14 ct14 cd14 : Value} {od14 an14 : Option Addr} {sl14 : Array (Option Value)}
    {oc15 kV15 dc15 pm15 ct15 cd15 : Value} {od15 an15 : Option Addr} {sl15 : Array (Option Value)}
    {oc16 kV16 dc16 pm16 ct16 cd16 : Value} {od16 an16 : Option Addr} {sl16 : Array (Option Value)}
    {oc17 kV17 dc17 pm17 ct17 cd17 : Value} {od17 an17 : Option Addr} {sl17 : Array (Option Value)}
    {oc18 kV18 dc18 pm18 ct18 cd18 : Value} {od18 an18 : Option Addr} {sl18 : Array (Option Value)}
    {oc19 kV19 dc19 pm19 ct19 cd19 : Value} {od19 an19 : Option Addr} {sl19 : Array (Option Value)}
    {oc20 kV20 dc20 pm20 ct20 cd20 : Value} {od20 an20 : Option Addr} {sl20 : Array (Option Value)}
    {oc21 kV21 dc21 pm21 ct21 cd21 : Value} {od21 an21 : Option Addr} {sl21 : Array (Option Value)}
    {oc22 kV22 dc22 pm22 ct22 cd22 : Value} {od22 an22 : Option Addr} {sl22 : Array (Option Value)}
    {oc23 kV23 dc23 pm23 ct23 cd23 : Value} {od23 an23 : Option Addr} {sl23 : Array (Option Value)}
    {oc24 kV24 dc24 pm24 ct24 cd24 : Value} {od24 an24 : Option Addr} {sl24 : Array (Option Value)}
    {oc25 kV25 dc25 pm25 ct25 cd25 : Value} {od25 an25 : Option Addr} {sl25 : Array (Option Value)}
    {oc26 kV26 dc26 pm26 ct26 cd26 : Value} {od26 an26 : Option Addr} {sl26 : Array (Option Value)}
    {oc27 kV27 dc27 pm27 ct27 cd27 : Value} {od27 an27 : Option Addr} {sl27 : Array (Option Value)}
    {oc28 kV28 dc28 pm28 ct28 cd28 : Value} {od28 an28 : Option Addr} {sl28 : Array (Option Value)}
    {oc29 kV29 dc29 pm29 ct29 cd29 : Value} {od29 an29 : Option Addr} {sl29 : Array (Option Value)}
    {oc30 kV30 dc30 pm30 ct30 cd30 : Value} {od30 an30 : Option Addr} {sl30 : Array (Option Value)}
    {oc31 kV31 dc31 pm31 ct31 cd31 : Value} {od31 an31 : Option Addr} {sl31 : Array (Option Value)}
    {oc32 kV32 dc32 pm32 ct32 : Value} {od32 an32 : Option Addr} {sl32 : Array (Option Value)}
    {oc33 kV33 dc33 pm33 ct33 : Value} {od33 an33 : Option Addr} {sl33 : Array (Option Value)}
    {oc34 kV34 dc34 pm34 ct34 cd34 : Value} {od34 an34 : Option Addr} {sl34 : Array (Option Value)}
    {oc35 kV35 dc35 pm35 ct35 cd35 : Value} {od35 an35 : Option Addr} {sl35 : Array (Option Value)}
    {oc36 kV36 dc36 pm36 ct36 cd36 : Value} {od36 an36 : Option Addr} {sl36 : Array (Option Value)}
    {oc41 kV41 dc41 pm41 ct41 cd41 : Value} {od41 an41 : Option Addr} {sl41 : Array (Option Value)}
    {oc42 kV42 dc42 pm42 ct42 cd42 : Value} {od42 an42 : Option Addr} {sl42 : Array (Option Value)}
    {u0 : Value}
    {u1 : Value}
    {u2 : Value}
    {u3 : Value}
    {u4 : Value}
    {nm3 : _} {q3 : _} {N3 : _} {bs3 : _} {bm3 : _} {sn3 : _} {sub3 : _} {ab3 : _} {col3 : _} {dd3 : _} {xa3 : _} {xb3 : _} {xd3 : _} {xe3 : _} {xf3 : _}
    {nm4 : _} {q4 : _} {N4 : _} {bs4 : _} {bm4 : _} {sn4 : _} {sub4 : _} {ab4 : _} {col4 : _} {dd4 : _} {xa4 : _} {xb4 : _} {xd4 : _} {xe4 : _} {xf4 : _}
    (KX : K.In h) (G : h.Ns mainGlobals mg) (hfa : mg "law" = some (.ref fa)) (ts : ∀ P ∈ [a38, a40], h.get? P = some (PySem.W.tabObj #[]))
    (say : ∀ ns : List Int, ns.length ≤ 63 → (∀ z ∈ ns, Builtin.Int.intBits z ≤ 1048576) → (∃ m, mFn 8 m_d46 [.lst (ns.map PV.int)] [] = .ok (.bl true) m) ∧ ∃ m, mFn 8 m_d46 [.kst (ns.map PV.int)] [] = .ok (.bl true) m)
    (nc6 : PySem.W.nsIn K mainGlobals "FiveError" = some (some (.ref c6)))
    (nc0 : PySem.W.nsIn K mainGlobals "InvalidWeb" = some (some (.ref c0)))
    (nc1 : PySem.W.nsIn K mainGlobals "InvalidRow" = some (some (.ref c1)))
    (nc2 : PySem.W.nsIn K mainGlobals "InvalidOperation" = some (some (.ref c2)))
    (nc3 : PySem.W.nsIn K mainGlobals "InvalidNumber" = some (some (.ref c3)))
    (nc4 : PySem.W.nsIn K mainGlobals "TooMany" = some (some (.ref c4)))
    (nc5 : PySem.W.nsIn K mainGlobals "Web" = some (some (.ref c5)))
    (n0 : PySem.W.nsIn K mainGlobals "is_between" = some (some (.ref a0)))
    (l0 : K.lookup a0 = some ⟨oc0, od0, .func (PySem.W.fnOf "is_between" "is_between" (defArgs s_d8) (defBody s_d8) (defScope s_d8) .none kV0 dc0 pm0 an0 cd0 ct0), sl0⟩)
    (o0 : PySem.W.codeIn K cd0 "is_between" = true)
    (k0 : PySem.W.keepIn K (.ref a0) = true)
    (n1 : PySem.W.nsIn K mainGlobals "are_between" = some (some (.ref a1)))
    (l1 : K.lookup a1 = some ⟨oc1, od1, .func (PySem.W.fnOf "are_between" "are_between" (defArgs s_d9) (defBody s_d9) (defScope s_d9) .none kV1 dc1 pm1 an1 cd1 ct1), sl1⟩)
    (o1 : PySem.W.codeIn K cd1 "are_between" = true)
    (k1 : PySem.W.keepIn K (.ref a1) = true)
    (n2 : PySem.W.findIn K (.ref c5) "__len__" = some (some (.ref a2)))
    (l2 : K.lookup a2 = some ⟨oc2, od2, .func (PySem.W.fnOf "__len__" "Web.__len__" (defArgs s_c20m3) (defBody s_c20m3) (defScope s_c20m3) .none kV2 dc2 pm2 an2 cd2 ct2), sl2⟩)
    (o2 : PySem.W.codeIn K cd2 "Web.__len__" = true)
    (k2 : PySem.W.keepIn K (.ref a2) = true)
    (fn2 : PySem.W.isFn K (.ref a2) = true)
    (n3 : PySem.W.nsIn K mainGlobals "is_ascending" = some (some (.ref a3)))
    (l3 : K.lookup a3 = some ⟨oc3, od3, .func (PySem.W.fnOf "is_ascending" "is_ascending" (defArgs s_d10) (defBody s_d10) (defScope s_d10) .none kV3 dc3 pm3 an3 cd3 ct3), sl3⟩)
    (o3 : PySem.W.codeIn K cd3 "is_ascending" = true)
    (k3 : PySem.W.keepIn K (.ref a3) = true)
    (n4 : PySem.W.nsIn K mainGlobals "are_colours" = some (some (.ref a4)))
    (l4 : K.lookup a4 = some ⟨oc4, od4, .func (PySem.W.fnOf "are_colours" "are_colours" (defArgs s_d17) (defBody s_d17) (defScope s_d17) .none kV4 dc4 pm4 an4 cd4 ct4), sl4⟩)
    (o4 : PySem.W.codeIn K cd4 "are_colours" = true)
    (k4 : PySem.W.keepIn K (.ref a4) = true)
    (n5 : PySem.W.nsIn K mainGlobals "are_ties" = some (some (.ref a5)))
    (l5 : K.lookup a5 = some ⟨oc5, od5, .func (PySem.W.fnOf "are_ties" "are_ties" (defArgs s_d18) (defBody s_d18) (defScope s_d18) .none kV5 dc5 pm5 an5 cd5 ct5), sl5⟩)
    (o5 : PySem.W.codeIn K cd5 "are_ties" = true)
    (k5 : PySem.W.keepIn K (.ref a5) = true)
    (n6 : PySem.W.nsIn K mainGlobals "near_points" = some (some (.ref a6)))
    (l6 : K.lookup a6 = some ⟨oc6, od6, .func (PySem.W.fnOf "near_points" "near_points" (defArgs s_d19) (defBody s_d19) (defScope s_d19) .none kV6 dc6 pm6 an6 cd6 ct6), sl6⟩)
    (o6 : PySem.W.codeIn K cd6 "near_points" = true)
    (k6 : PySem.W.keepIn K (.ref a6) = true)
    (n7 : PySem.W.nsIn K mainGlobals "check_web" = some (some (.ref a7)))
    (l7 : K.lookup a7 = some ⟨oc7, od7, .func (PySem.W.fnOf "check_web" "check_web" (defArgs s_d21) (defBody s_d21) (defScope s_d21) .none kV7 dc7 pm7 an7 cd7 ct7), sl7⟩)
    (o7 : PySem.W.codeIn K cd7 "check_web" = true)
    (k7 : PySem.W.keepIn K (.ref a7) = true)
    (n8 : PySem.W.nsIn K mainGlobals "check_point" = some (some (.ref a8)))
    (l8 : K.lookup a8 = some ⟨oc8, od8, .func (PySem.W.fnOf "check_point" "check_point" (defArgs s_d22) (defBody s_d22) (defScope s_d22) .none kV8 dc8 pm8 an8 cd8 ct8), sl8⟩)
    (o8 : PySem.W.codeIn K cd8 "check_point" = true)
    (k8 : PySem.W.keepIn K (.ref a8) = true)
    (n9 : PySem.W.nsIn K mainGlobals "is_row_of" = some (some (.ref a9)))
    (l9 : K.lookup a9 = some ⟨oc9, od9, .func (PySem.W.fnOf "is_row_of" "is_row_of" (defArgs s_d23) (defBody s_d23) (defScope s_d23) .none kV9 dc9 pm9 an9 cd9 ct9), sl9⟩)
    (o9 : PySem.W.codeIn K cd9 "is_row_of" = true)
    (k9 : PySem.W.keepIn K (.ref a9) = true)
    (n10 : PySem.W.nsIn K mainGlobals "check_row" = some (some (.ref a10)))
    (l10 : K.lookup a10 = some ⟨oc10, od10, .func (PySem.W.fnOf "check_row" "check_row" (defArgs s_d24) (defBody s_d24) (defScope s_d24) .none kV10 dc10 pm10 an10 cd10 ct10), sl10⟩)
    (o10 : PySem.W.codeIn K cd10 "check_row" = true)
    (k10 : PySem.W.keepIn K (.ref a10) = true)
    (n11 : PySem.W.nsIn K mainGlobals "is_lot" = some (some (.ref a11)))
    (l11 : K.lookup a11 = some ⟨oc11, od11, .func (PySem.W.fnOf "is_lot" "is_lot" (defArgs s_d25) (defBody s_d25) (defScope s_d25) .none kV11 dc11 pm11 an11 cd11 ct11), sl11⟩)
    (o11 : PySem.W.codeIn K cd11 "is_lot" = true)
    (k11 : PySem.W.keepIn K (.ref a11) = true)
    (n12 : PySem.W.findIn K (.ref c5) "__init__" = some (some (.ref a12)))
    (l12 : K.lookup a12 = some ⟨oc12, od12, .func (PySem.W.fnOf "__init__" "Web.__init__" (defArgs s_c20m0) (defBody s_c20m0) (defScope s_c20m0) .none kV12 dc12 pm12 an12 cd12 ct12), sl12⟩)
    (o12 : PySem.W.codeIn K cd12 "Web.__init__" = true)
    (k12 : PySem.W.keepIn K (.ref a12) = true)
    (fn12 : PySem.W.isFn K (.ref a12) = true)
    (n13 : PySem.W.nsIn K mainGlobals "part" = some (some (.ref a13)))
    (l13 : K.lookup a13 = some ⟨oc13, od13, .func (PySem.W.fnOf "part" "part" (defArgs s_d26) (defBody s_d26) (defScope s_d26) .none kV13 dc13 pm13 an13 cd13 ct13), sl13⟩)
    (o13 : PySem.W.codeIn K cd13 "part" = true)
    (k13 : PySem.W.keepIn K (.ref a13) = true)
    (n14 : PySem.W.nsIn K mainGlobals "renamed" = some (some (.ref a14)))
    (l14 : K.lookup a14 = some ⟨oc14, od14, .func (PySem.W.fnOf "renamed" "renamed" (defArgs s_d27) (defBody s_d27) (defScope s_d27) .none kV14 dc14 pm14 an14 cd14 ct14), sl14⟩)
    (o14 : PySem.W.codeIn K cd14 "renamed" = true)
    (k14 : PySem.W.keepIn K (.ref a14) = true)
    (n15 : PySem.W.nsIn K mainGlobals "recoloured" = some (some (.ref a15)))
    (l15 : K.lookup a15 = some ⟨oc15, od15, .func (PySem.W.fnOf "recoloured" "recoloured" (defArgs s_d28) (defBody s_d28) (defScope s_d28) .none kV15 dc15 pm15 an15 cd15 ct15), sl15⟩)
    (o15 : PySem.W.codeIn K cd15 "recoloured" = true)
    (k15 : PySem.W.keepIn K (.ref a15) = true)
    (n16 : PySem.W.nsIn K mainGlobals "ties_beside" = some (some (.ref a16)))
    (l16 : K.lookup a16 = some ⟨oc16, od16, .func (PySem.W.fnOf "ties_beside" "ties_beside" (defArgs s_d29) (defBody s_d29) (defScope s_d29) .none kV16 dc16 pm16 an16 cd16 ct16), sl16⟩)
    (o16 : PySem.W.codeIn K cd16 "ties_beside" = true)
    (k16 : PySem.W.keepIn K (.ref a16) = true)
    (n17 : PySem.W.nsIn K mainGlobals "check_both" = some (some (.ref a17)))
    (l17 : K.lookup a17 = some ⟨oc17, od17, .func (PySem.W.fnOf "check_both" "check_both" (defArgs s_d30) (defBody s_d30) (defScope s_d30) .none kV17 dc17 pm17 an17 cd17 ct17), sl17⟩)
    (o17 : PySem.W.codeIn K cd17 "check_both" = true)
    (k17 : PySem.W.keepIn K (.ref a17) = true)
    (n18 : PySem.W.nsIn K mainGlobals "beside" = some (some (.ref a18)))
    (l18 : K.lookup a18 = some ⟨oc18, od18, .func (PySem.W.fnOf "beside" "beside" (defArgs s_d31) (defBody s_d31) (defScope s_d31) .none kV18 dc18 pm18 an18 cd18 ct18), sl18⟩)
    (o18 : PySem.W.codeIn K cd18 "beside" = true)
    (k18 : PySem.W.keepIn K (.ref a18) = true)
    (n19 : PySem.W.nsIn K mainGlobals "joined" = some (some (.ref a19)))
    (l19 : K.lookup a19 = some ⟨oc19, od19, .func (PySem.W.fnOf "joined" "joined" (defArgs s_d32) (defBody s_d32) (defScope s_d32) .none kV19 dc19 pm19 an19 cd19 ct19), sl19⟩)
    (o19 : PySem.W.codeIn K cd19 "joined" = true)
    (k19 : PySem.W.keepIn K (.ref a19) = true)
    (n20 : PySem.W.findIn K (.ref c5) "near" = some (some (.ref a20)))
    (l20 : K.lookup a20 = some ⟨oc20, od20, .func (PySem.W.fnOf "near" "Web.near" (defArgs s_c20m1) (defBody s_c20m1) (defScope s_c20m1) .none kV20 dc20 pm20 an20 cd20 ct20), sl20⟩)
    (o20 : PySem.W.codeIn K cd20 "Web.near" = true)
    (k20 : PySem.W.keepIn K (.ref a20) = true)
    (fn20 : PySem.W.isFn K (.ref a20) = true)
    (n21 : PySem.W.nsIn K mainGlobals "opposite" = some (some (.ref a21)))
    (l21 : K.lookup a21 = some ⟨oc21, od21, .func (PySem.W.fnOf "opposite" "opposite" (defArgs s_d33) (defBody s_d33) (defScope s_d33) .none kV21 dc21 pm21 an21 cd21 ct21), sl21⟩)
    (o21 : PySem.W.codeIn K cd21 "opposite" = true)
    (k21 : PySem.W.keepIn K (.ref a21) = true)
    (n22 : PySem.W.nsIn K mainGlobals "piece_with" = some (some (.ref a22)))
    (l22 : K.lookup a22 = some ⟨oc22, od22, .func (PySem.W.fnOf "piece_with" "piece_with" (defArgs s_d34) (defBody s_d34) (defScope s_d34) .none kV22 dc22 pm22 an22 cd22 ct22), sl22⟩)
    (o22 : PySem.W.codeIn K cd22 "piece_with" = true)
    (k22 : PySem.W.keepIn K (.ref a22) = true)
    (n23 : PySem.W.nsIn K mainGlobals "pieces" = some (some (.ref a23)))
    (l23 : K.lookup a23 = some ⟨oc23, od23, .func (PySem.W.fnOf "pieces" "pieces" (defArgs s_d35) (defBody s_d35) (defScope s_d35) .none kV23 dc23 pm23 an23 cd23 ct23), sl23⟩)
    (o23 : PySem.W.codeIn K cd23 "pieces" = true)
    (k23 : PySem.W.keepIn K (.ref a23) = true)
    (n24 : PySem.W.nsIn K mainGlobals "is_row" = some (some (.ref a24)))
    (l24 : K.lookup a24 = some ⟨oc24, od24, .func (PySem.W.fnOf "is_row" "is_row" (defArgs s_d36) (defBody s_d36) (defScope s_d36) .none kV24 dc24 pm24 an24 cd24 ct24), sl24⟩)
    (o24 : PySem.W.codeIn K cd24 "is_row" = true)
    (k24 : PySem.W.keepIn K (.ref a24) = true)
    (n25 : PySem.W.nsIn K mainGlobals "atom_at" = some (some (.ref a25)))
    (l25 : K.lookup a25 = some ⟨oc25, od25, .func (PySem.W.fnOf "atom_at" "atom_at" (defArgs s_d37) (defBody s_d37) (defScope s_d37) .none kV25 dc25 pm25 an25 cd25 ct25), sl25⟩)
    (o25 : PySem.W.codeIn K cd25 "atom_at" = true)
    (k25 : PySem.W.keepIn K (.ref a25) = true)
    (n26 : PySem.W.nsIn K mainGlobals "atom_of" = some (some (.ref a26)))
    (l26 : K.lookup a26 = some ⟨oc26, od26, .func (PySem.W.fnOf "atom_of" "atom_of" (defArgs s_d38) (defBody s_d38) (defScope s_d38) .none kV26 dc26 pm26 an26 cd26 ct26), sl26⟩)
    (o26 : PySem.W.codeIn K cd26 "atom_of" = true)
    (k26 : PySem.W.keepIn K (.ref a26) = true)
    (n27 : PySem.W.nsIn K mainGlobals "are_like" = some (some (.ref a27)))
    (l27 : K.lookup a27 = some ⟨oc27, od27, .func (PySem.W.fnOf "are_like" "are_like" (defArgs s_d39) (defBody s_d39) (defScope s_d39) .none kV27 dc27 pm27 an27 cd27 ct27), sl27⟩)
    (o27 : PySem.W.codeIn K cd27 "are_like" = true)
    (k27 : PySem.W.keepIn K (.ref a27) = true)
    (n28 : PySem.W.nsIn K mainGlobals "_law_wb_pot" = some (some (.ref a28)))
    (l28 : K.lookup a28 = some ⟨oc28, od28, .func (PySem.W.fnOf "_law_wb_pot" "_law_wb_pot" (defArgs s_d41) (defBody s_d41) (defScope s_d41) .none kV28 dc28 pm28 an28 cd28 ct28), sl28⟩)
    (o28 : PySem.W.codeIn K cd28 "_law_wb_pot" = true)
    (k28 : PySem.W.keepIn K (.ref a28) = true)
    (n29 : PySem.W.nsIn K mainGlobals "_law_wb_toss" = some (some (.ref a29)))
    (l29 : K.lookup a29 = some ⟨oc29, od29, .func (PySem.W.fnOf "_law_wb_toss" "_law_wb_toss" (defArgs s_d42) (defBody s_d42) (defScope s_d42) .none kV29 dc29 pm29 an29 cd29 ct29), sl29⟩)
    (o29 : PySem.W.codeIn K cd29 "_law_wb_toss" = true)
    (k29 : PySem.W.keepIn K (.ref a29) = true)
    (n30 : PySem.W.nsIn K mainGlobals "_law_wb_turned" = some (some (.ref a30)))
    (l30 : K.lookup a30 = some ⟨oc30, od30, .func (PySem.W.fnOf "_law_wb_turned" "_law_wb_turned" (defArgs s_d43) (defBody s_d43) (defScope s_d43) .none kV30 dc30 pm30 an30 cd30 ct30), sl30⟩)
    (o30 : PySem.W.codeIn K cd30 "_law_wb_turned" = true)
    (k30 : PySem.W.keepIn K (.ref a30) = true)
    (n31 : PySem.W.findIn K (.ref c5) "is_tied" = some (some (.ref a31)))
    (l31 : K.lookup a31 = some ⟨oc31, od31, .func (PySem.W.fnOf "is_tied" "Web.is_tied" (defArgs s_c20m2) (defBody s_c20m2) (defScope s_c20m2) .none kV31 dc31 pm31 an31 cd31 ct31), sl31⟩)
    (o31 : PySem.W.codeIn K cd31 "Web.is_tied" = true)
    (k31 : PySem.W.keepIn K (.ref a31) = true)
    (fn31 : PySem.W.isFn K (.ref a31) = true)
    (n32 : PySem.W.nsIn K mainGlobals "_law_right" = some (some (.ref a32)))
    (l32 : K.lookup a32 = some ⟨oc32, od32, .func (PySem.W.fnOf "_law_right" "_law_right" (defArgs s_d45) (defBody s_d45) (defScope s_d45) .none kV32 dc32 pm32 an32 (.ref a37) ct32), sl32⟩)
    (o32 : PySem.W.codeIn K (.ref a37) "_law_right" = true)
    (k32 : PySem.W.keepIn K (.ref a32) = true)
    (n33 : PySem.W.nsIn K mainGlobals "law" = some (some (.ref a33)))
    (l33 : K.lookup a33 = some ⟨oc33, od33, .func (PySem.W.fnOf "law" "law" (defArgs s_d46) (defBody s_d46) (defScope s_d46) .none kV33 dc33 pm33 an33 (.ref a39) ct33), sl33⟩)
    (o33 : PySem.W.codeIn K (.ref a39) "law" = true)
    (k33 : PySem.W.keepIn K (.ref a33) = true)
    (n34 : PySem.W.findIn K (.ref c5) "__contains__" = some (some (.ref a34)))
    (l34 : K.lookup a34 = some ⟨oc34, od34, .func (PySem.W.fnOf "__contains__" "Web.__contains__" (defArgs s_c20m4) (defBody s_c20m4) (defScope s_c20m4) .none kV34 dc34 pm34 an34 cd34 ct34), sl34⟩)
    (o34 : PySem.W.codeIn K cd34 "Web.__contains__" = true)
    (k34 : PySem.W.keepIn K (.ref a34) = true)
    (fn34 : PySem.W.isFn K (.ref a34) = true)
    (n35 : PySem.W.findIn K (.ref c5) "__eq__" = some (some (.ref a35)))
    (l35 : K.lookup a35 = some ⟨oc35, od35, .func (PySem.W.fnOf "__eq__" "Web.__eq__" (defArgs s_c20m5) (defBody s_c20m5) (defScope s_c20m5) .none kV35 dc35 pm35 an35 cd35 ct35), sl35⟩)
    (o35 : PySem.W.codeIn K cd35 "Web.__eq__" = true)
    (k35 : PySem.W.keepIn K (.ref a35) = true)
    (fn35 : PySem.W.isFn K (.ref a35) = true)
    (n36 : PySem.W.nsIn K mainGlobals "_law_met" = some (some (.ref a36)))
    (l36 : K.lookup a36 = some ⟨oc36, od36, .func (PySem.W.fnOf "_law_met" "_law_met" (defArgs s_d44) (defBody s_d44) (defScope s_d44) .none kV36 dc36 pm36 an36 cd36 ct36), sl36⟩)
    (o36 : PySem.W.codeIn K cd36 "_law_met" = true)
    (k36 : PySem.W.keepIn K (.ref a36) = true)
    (n41 : PySem.W.findIn K (.ref c3) "__init__" = some (some (.ref a41)))
    (l41 : K.lookup a41 = some ⟨oc41, od41, .func (PySem.W.fnOf "__init__" "InvalidNumber.__init__" (defArgs s_i3) (defBody s_i3) (defScope s_i3) .none kV41 dc41 pm41 an41 cd41 ct41), sl41⟩)
    (o41 : PySem.W.codeIn K cd41 "InvalidNumber.__init__" = true)
    (k41 : PySem.W.keepIn K (.ref a41) = true)
    (fn41 : PySem.W.isFn K (.ref a41) = true)
    (n42 : PySem.W.findIn K (.ref c4) "__init__" = some (some (.ref a42)))
    (l42 : K.lookup a42 = some ⟨oc42, od42, .func (PySem.W.fnOf "__init__" "TooMany.__init__" (defArgs s_i4) (defBody s_i4) (defScope s_i4) .none kV42 dc42 pm42 an42 cd42 ct42), sl42⟩)
    (o42 : PySem.W.codeIn K cd42 "TooMany.__init__" = true)
    (k42 : PySem.W.keepIn K (.ref a42) = true)
    (fn42 : PySem.W.isFn K (.ref a42) = true)
    (cc_law_right : PySem.W.codeHdIn K a37 a38 = true)
    (ct_law_right : K.lookup a38 = none)
    (cclaw : PySem.W.codeHdIn K a39 a40 = true)
    (ctlaw : K.lookup a40 = none)
    (tne : a38 ≠ a40)
    (b_abs : PySem.W.nsIn K mainGlobals "abs" = some none)
    (b_enumerate : PySem.W.nsIn K mainGlobals "enumerate" = some none)
    (b_int : PySem.W.nsIn K mainGlobals "int" = some none)
    (b_isinstance : PySem.W.nsIn K mainGlobals "isinstance" = some none)
    (b_len : PySem.W.nsIn K mainGlobals "len" = some none)
    (b_list : PySem.W.nsIn K mainGlobals "list" = some none)
    (b_max : PySem.W.nsIn K mainGlobals "max" = some none)
    (b_min : PySem.W.nsIn K mainGlobals "min" = some none)
    (b_range : PySem.W.nsIn K mainGlobals "range" = some none)
    (b_repr : PySem.W.nsIn K mainGlobals "repr" = some none)
    (b_sorted : PySem.W.nsIn K mainGlobals "sorted" = some none)
    (b_tuple : PySem.W.nsIn K mainGlobals "tuple" = some none)
    (b_type : PySem.W.nsIn K mainGlobals "type" = some none)
    (pg5 : PySem.W.plainGet K c5 Str.empty = true)
    (hd5 : PySem.W.hasDictIn K c5 = true)
    (po5 : PySem.W.plainOver K c5 = true)
    (sa5 : PySem.W.findIn K (.ref c5) "__setattr__" = some (some (.builtin "object.__setattr__")))
    (ha5 : PySem.W.findIn K (.ref c5) "__class__" = some (some (.builtin "object.__class__")))
    (mi5 : PySem.W.makesIn K c5 = true)
    (kc5 : PySem.W.keepIn K (.ref c5) = true)
    (hm5 : PySem.W.mroIn K c5 (.type "object") = some true)
    (me5 : PySem.W.kitOne K (.ref c5) (.ref c5) = some true)
    (na5_colours : PySem.W.findIn K (.ref c5) "colours" = some none)
    (na5_ties : PySem.W.findIn K (.ref c5) "ties" = some none)
    (na5__near : PySem.W.findIn K (.ref c5) "_near" = some none)
    (na5_degrees : PySem.W.findIn K (.ref c5) "degrees" = some none)
    (hn : PySem.W.specialIn K (.builtin "object.__class__") "__get__" = some (some (.builtin "getset_descriptor.__get__")))
    (htk : PySem.W.takesIn K (.builtin "object.__class__") = some true)
    (isi : isiChk K (fun n => [c0, c1, c2, c3, c4, c5, c6].getD n 0) iOwn iTab (fun n => gU [c0, c1, c2, c3, c4, c5, c6] n) = true)
    (tyo : iOwn.all (fun o => PySem.W.typeIn K (.ref ([c0, c1, c2, c3, c4, c5, c6].getD (o - 10) 0)) == some (.type "type")) = true)
    (apt : aptChk K [c0, c1, c2, c3, c4] = true)
    (sb6 : PySem.W.subIn K (.ref c6) (.type "BaseException") = some true)
    (ty6 : PySem.W.typeIn K (.ref c6) = some (.type "type"))
    (ke6 : PySem.W.keepIn K (.ref c6) = true)
    (bsp6 : PySem.W.specialIn K (.ref c6) "__getattribute__" = some (some (.builtin "type.__getattribute__")))
    (brd6 : PySem.W.readsIn K c6 (.type "type") = true)
    (bfc6 : PySem.W.findCls K (.ref c6) (.type "type") "__init__" = some (.val (.builtin "ValueError.__init__")))
    (sb0 : PySem.W.subIn K (.ref c0) (.type "BaseException") = some true)
    (ty0 : PySem.W.typeIn K (.ref c0) = some (.type "type"))
    (ke0 : PySem.W.keepIn K (.ref c0) = true)
    (ex0 : PySem.W.excIn K c0 [.type "ValueError", .type "Exception", .type "BaseException", .type "object"] "ValueError.__new__" = true)
    (sb1 : PySem.W.subIn K (.ref c1) (.type "BaseException") = some true)
    (ty1 : PySem.W.typeIn K (.ref c1) = some (.type "type"))
    (ke1 : PySem.W.keepIn K (.ref c1) = true)
    (ex1 : PySem.W.excIn K c1 [.type "ValueError", .type "Exception", .type "BaseException", .type "object"] "ValueError.__new__" = true)
    (sb2 : PySem.W.subIn K (.ref c2) (.type "BaseException") = some true)
    (ty2 : PySem.W.typeIn K (.ref c2) = some (.type "type"))
    (ke2 : PySem.W.keepIn K (.ref c2) = true)
    (ex2 : PySem.W.excIn K c2 [.type "ValueError", .type "Exception", .type "BaseException", .type "object"] "ValueError.__new__" = true)
    (sb3 : PySem.W.subIn K (.ref c3) (.type "BaseException") = some true)
    (ty3 : PySem.W.typeIn K (.ref c3) = some (.type "type"))
    (ke3 : PySem.W.keepIn K (.ref c3) = true)
    (cl3 : K.lookup c3 = some (excClassObj nm3 q3 c3 N3 bs3 bm3 true sn3 sub3 ab3 col3 dd3 xa3 xb3 xd3 xe3 xf3 "ValueError.__new__"))
    (ve3 : PySem.HandSPX.refsVE bm3 = true)
    (esa3 : PySem.W.findIn K (.ref c3) "__setattr__" = some (some (.builtin "object.__setattr__")))
    (ega3 : PySem.W.findIn K (.ref c3) "__getattribute__" = some (some (.builtin "BaseException.__getattribute__")))
    (egg3 : PySem.W.findIn K (.ref c3) "__getattr__" = some none)
    (ehd3 : PySem.W.hasDictIn K c3 = true)
    (eno3 : PySem.W.findIn K (.ref c3) "given" = some none)
    (eti3 : PySem.W.typeIn K (.ref a41) = some (.type "function"))
    (sb4 : PySem.W.subIn K (.ref c4) (.type "BaseException") = some true)
    (ty4 : PySem.W.typeIn K (.ref c4) = some (.type "type"))
    (ke4 : PySem.W.keepIn K (.ref c4) = true)
    (cl4 : K.lookup c4 = some (excClassObj nm4 q4 c4 N4 bs4 bm4 true sn4 sub4 ab4 col4 dd4 xa4 xb4 xd4 xe4 xf4 "ValueError.__new__"))
    (ve4 : PySem.HandSPX.refsVE bm4 = true)
    (esa4 : PySem.W.findIn K (.ref c4) "__setattr__" = some (some (.builtin "object.__setattr__")))
    (ega4 : PySem.W.findIn K (.ref c4) "__getattribute__" = some (some (.builtin "BaseException.__getattribute__")))
    (egg4 : PySem.W.findIn K (.ref c4) "__getattr__" = some none)
    (ehd4 : PySem.W.hasDictIn K c4 = true)
    (eno4 : PySem.W.findIn K (.ref c4) "most" = some none)
    (eti4 : PySem.W.typeIn K (.ref a42) = some (.type "function"))
    (nv0 : PySem.W.nsIn K mainGlobals "MOST_POINTS" = some (some u0))
    (vv0 : RelV (.int (40)) u0)
    (nv1 : PySem.W.nsIn K mainGlobals "MOST_PLACES" = some (some u1))
    (vv1 : RelV (.int (4)) u1)
    (nv2 : PySem.W.nsIn K mainGlobals "PAIRS" = some (some u2))
    (vv2 : kvOk K (.tup [(.tup []), (.tup []), (.tup [(.tup [(.int (0)), (.int (1))])]), (.tup [(.tup [(.int (0)), (.int (1))]), (.tup [(.int (0)), (.int (2))]), (.tup [(.int (1)), (.int (2))])]), (.tup [(.tup [(.int (0)), (.int (1))]), (.tup [(.int (0)), (.int (2))]), (.tup [(.int (0)), (.int (3))]), (.tup [(.int (1)), (.int (2))]), (.tup [(.int (1)), (.int (3))]), (.tup [(.int (2)), (.int (3))])])]) u2 = true)
    (nv3 : PySem.W.nsIn K mainGlobals "LEAST_COLOUR" = some (some u3))
    (vv3 : RelV (.int (-1)) u3)
    (nv4 : PySem.W.nsIn K mainGlobals "GREATEST_COLOUR" = some (some u4))
    (vv4 : RelV (.int (9)) u4)
    : ∃ (fd : FuncData) (cs : List (Addr × Addr)) (sp : Sp), LawG l w K 11 63 "script" fa mg h fd cs sp := by
  have e := hfa.symm.trans (PySem.W.mg_of KX G n33)
  have e2 : a33 = fa := by
    injection e with e
    injection e with e
    exact e.symm
  subst e2
  let gl : List V := [.ty "int", .ty "bool", .ty "tuple", .ty "list", .ty "dict", .ty "str", .ref c6, .ref c0, .ref c1, .ref c2, .ref c3, .ref c4, .ref c5, .ref a0, .ref a1, .ref a3, .ref a4, .ref a5, .ref a6, .ref a7, .ref a8, .ref a9, .ref a10, .ref a11, .ref a13, .ref a14, .ref a15, .ref a16, .ref a17, .ref a18, .ref a19, .ref a21, .ref a22, .ref a23, .ref a24, .ref a25, .ref a26, .ref a27, .ref a28, .ref a29, .ref a30, .ref a36, .ref a32, .ref a33]
  let cl : List Addr := [c0, c1, c2, c3, c4, c5, c6]
  let al : List Addr := [a0, a1, a2, a3, a4, a5, a6, a7, a8, a9, a10, a11, a12, a13, a14, a15, a16, a17, a18, a19, a20, a21, a22, a23, a24, a25, a26, a27, a28, a29, a30, a31, a32, a33, a34, a35, a36, a37, a38, a39, a40, a41, a42]
  let T : Tx := { P := l.prog, w := w, K := K, g := fun n => gl.getD n .non, cA := fun n => cl.getD n 0, cN := cNm, ex := none, kt := true, tb := [(a38, (("_law_right" : Str) ++ ".<locals>.") ++ "<lambda>"), (a40, (("law" : Str) ++ ".<locals>.") ++ "<lambda>")] }
  have F0 := fun_mk (st := s_d8) l0 o0 k0
  have F1 := fun_mk (st := s_d9) l1 o1 k1
  have F2 := fun_mk (st := s_c20m3) l2 o2 k2
  have F3 := fun_mk (st := s_d10) l3 o3 k3
  have F4 := fun_mk (st := s_d17) l4 o4 k4
  have F5 := fun_mk (st := s_d18) l5 o5 k5
  have F6 := fun_mk (st := s_d19) l6 o6 k6
  have F7 := fun_mk (st := s_d21) l7 o7 k7
  have F8 := fun_mk (st := s_d22) l8 o8 k8
  have F9 := fun_mk (st := s_d23) l9 o9 k9
  have F10 := fun_mk (st := s_d24) l10 o10 k10
  have F11 := fun_mk (st := s_d25) l11 o11 k11
  have F12 := fun_mk (st := s_c20m0) l12 o12 k12
  have F13 := fun_mk (st := s_d26) l13 o13 k13
  have F14 := fun_mk (st := s_d27) l14 o14 k14
  have F15 := fun_mk (st := s_d28) l15 o15 k15
  have F16 := fun_mk (st := s_d29) l16 o16 k16
  have F17 := fun_mk (st := s_d30) l17 o17 k17
  have F18 := fun_mk (st := s_d31) l18 o18 k18
  have F19 := fun_mk (st := s_d32) l19 o19 k19
  have F20 := fun_mk (st := s_c20m1) l20 o20 k20
  have F21 := fun_mk (st := s_d33) l21 o21 k21
  have F22 := fun_mk (st := s_d34) l22 o22 k22
  have F23 := fun_mk (st := s_d35) l23 o23 k23
  have F24 := fun_mk (st := s_d36) l24 o24 k24
  have F25 := fun_mk (st := s_d37) l25 o25 k25
  have F26 := fun_mk (st := s_d38) l26 o26 k26
  have F27 := fun_mk (st := s_d39) l27 o27 k27
  have F28 := fun_mk (st := s_d41) l28 o28 k28
  have F29 := fun_mk (st := s_d42) l29 o29 k29
  have F30 := fun_mk (st := s_d43) l30 o30 k30
  have F31 := fun_mk (st := s_c20m2) l31 o31 k31
  have F32 := fun_mk (st := s_d45) l32 o32 k32
  have F33 := fun_mk (st := s_d46) l33 o33 k33
  have F34 := fun_mk (st := s_c20m4) l34 o34 k34
  have F35 := fun_mk (st := s_c20m5) l35 o35 k35
  have F36 := fun_mk (st := s_d44) l36 o36 k36
  have F41 := fun_mk (st := s_i3) l41 o41 k41
  have F42 := fun_mk (st := s_i4) l42 o42 k42
  let fl : List FuncData := [(PySem.W.fnOf "is_between" "is_between" (defArgs s_d8) (defBody s_d8) (defScope s_d8) .none kV0 dc0 pm0 an0 cd0 ct0),
    (PySem.W.fnOf "are_between" "are_between" (defArgs s_d9) (defBody s_d9) (defScope s_d9) .none kV1 dc1 pm1 an1 cd1 ct1),
    (PySem.W.fnOf "__len__" "Web.__len__" (defArgs s_c20m3) (defBody s_c20m3) (defScope s_c20m3) .none kV2 dc2 pm2 an2 cd2 ct2),
    (PySem.W.fnOf "is_ascending" "is_ascending" (defArgs s_d10) (defBody s_d10) (defScope s_d10) .none kV3 dc3 pm3 an3 cd3 ct3),
    (PySem.W.fnOf "are_colours" "are_colours" (defArgs s_d17) (defBody s_d17) (defScope s_d17) .none kV4 dc4 pm4 an4 cd4 ct4),
    (PySem.W.fnOf "are_ties" "are_ties" (defArgs s_d18) (defBody s_d18) (defScope s_d18) .none kV5 dc5 pm5 an5 cd5 ct5),
    (PySem.W.fnOf "near_points" "near_points" (defArgs s_d19) (defBody s_d19) (defScope s_d19) .none kV6 dc6 pm6 an6 cd6 ct6),
    (PySem.W.fnOf "check_web" "check_web" (defArgs s_d21) (defBody s_d21) (defScope s_d21) .none kV7 dc7 pm7 an7 cd7 ct7),
    (PySem.W.fnOf "check_point" "check_point" (defArgs s_d22) (defBody s_d22) (defScope s_d22) .none kV8 dc8 pm8 an8 cd8 ct8),
    (PySem.W.fnOf "is_row_of" "is_row_of" (defArgs s_d23) (defBody s_d23) (defScope s_d23) .none kV9 dc9 pm9 an9 cd9 ct9),
    (PySem.W.fnOf "check_row" "check_row" (defArgs s_d24) (defBody s_d24) (defScope s_d24) .none kV10 dc10 pm10 an10 cd10 ct10),
    (PySem.W.fnOf "is_lot" "is_lot" (defArgs s_d25) (defBody s_d25) (defScope s_d25) .none kV11 dc11 pm11 an11 cd11 ct11),
    (PySem.W.fnOf "__init__" "Web.__init__" (defArgs s_c20m0) (defBody s_c20m0) (defScope s_c20m0) .none kV12 dc12 pm12 an12 cd12 ct12),
    (PySem.W.fnOf "part" "part" (defArgs s_d26) (defBody s_d26) (defScope s_d26) .none kV13 dc13 pm13 an13 cd13 ct13),
    (PySem.W.fnOf "renamed" "renamed" (defArgs s_d27) (defBody s_d27) (defScope s_d27) .none kV14 dc14 pm14 an14 cd14 ct14),
    (PySem.W.fnOf "recoloured" "recoloured" (defArgs s_d28) (defBody s_d28) (defScope s_d28) .none kV15 dc15 pm15 an15 cd15 ct15),
    (PySem.W.fnOf "ties_beside" "ties_beside" (defArgs s_d29) (defBody s_d29) (defScope s_d29) .none kV16 dc16 pm16 an16 cd16 ct16),
    (PySem.W.fnOf "check_both" "check_both" (defArgs s_d30) (defBody s_d30) (defScope s_d30) .none kV17 dc17 pm17 an17 cd17 ct17),
    (PySem.W.fnOf "beside" "beside" (defArgs s_d31) (defBody s_d31) (defScope s_d31) .none kV18 dc18 pm18 an18 cd18 ct18),
    (PySem.W.fnOf "joined" "joined" (defArgs s_d32) (defBody s_d32) (defScope s_d32) .none kV19 dc19 pm19 an19 cd19 ct19),
    (PySem.W.fnOf "near" "Web.near" (defArgs s_c20m1) (defBody s_c20m1) (defScope s_c20m1) .none kV20 dc20 pm20 an20 cd20 ct20),
    (PySem.W.fnOf "opposite" "opposite" (defArgs s_d33) (defBody s_d33) (defScope s_d33) .none kV21 dc21 pm21 an21 cd21 ct21),
    (PySem.W.fnOf "piece_with" "piece_with" (defArgs s_d34) (defBody s_d34) (defScope s_d34) .none kV22 dc22 pm22 an22 cd22 ct22),
    (PySem.W.fnOf "pieces" "pieces" (defArgs s_d35) (defBody s_d35) (defScope s_d35) .none kV23 dc23 pm23 an23 cd23 ct23),
    (PySem.W.fnOf "is_row" "is_row" (defArgs s_d36) (defBody s_d36) (defScope s_d36) .none kV24 dc24 pm24 an24 cd24 ct24),
    (PySem.W.fnOf "atom_at" "atom_at" (defArgs s_d37) (defBody s_d37) (defScope s_d37) .none kV25 dc25 pm25 an25 cd25 ct25),
    (PySem.W.fnOf "atom_of" "atom_of" (defArgs s_d38) (defBody s_d38) (defScope s_d38) .none kV26 dc26 pm26 an26 cd26 ct26),
    (PySem.W.fnOf "are_like" "are_like" (defArgs s_d39) (defBody s_d39) (defScope s_d39) .none kV27 dc27 pm27 an27 cd27 ct27),
    (PySem.W.fnOf "_law_wb_pot" "_law_wb_pot" (defArgs s_d41) (defBody s_d41) (defScope s_d41) .none kV28 dc28 pm28 an28 cd28 ct28),
    (PySem.W.fnOf "_law_wb_toss" "_law_wb_toss" (defArgs s_d42) (defBody s_d42) (defScope s_d42) .none kV29 dc29 pm29 an29 cd29 ct29),
    (PySem.W.fnOf "_law_wb_turned" "_law_wb_turned" (defArgs s_d43) (defBody s_d43) (defScope s_d43) .none kV30 dc30 pm30 an30 cd30 ct30),
    (PySem.W.fnOf "is_tied" "Web.is_tied" (defArgs s_c20m2) (defBody s_c20m2) (defScope s_c20m2) .none kV31 dc31 pm31 an31 cd31 ct31),
    (PySem.W.fnOf "_law_right" "_law_right" (defArgs s_d45) (defBody s_d45) (defScope s_d45) .none kV32 dc32 pm32 an32 (.ref a37) ct32),
    (PySem.W.fnOf "law" "law" (defArgs s_d46) (defBody s_d46) (defScope s_d46) .none kV33 dc33 pm33 an33 (.ref a39) ct33),
    (PySem.W.fnOf "__contains__" "Web.__contains__" (defArgs s_c20m4) (defBody s_c20m4) (defScope s_c20m4) .none kV34 dc34 pm34 an34 cd34 ct34),
    (PySem.W.fnOf "__eq__" "Web.__eq__" (defArgs s_c20m5) (defBody s_c20m5) (defScope s_c20m5) .none kV35 dc35 pm35 an35 cd35 ct35),
    (PySem.W.fnOf "_law_met" "_law_met" (defArgs s_d44) (defBody s_d44) (defScope s_d44) .none kV36 dc36 pm36 an36 cd36 ct36),
    (PySem.W.fnOf "law" "law" (defArgs s_d46) (defBody s_d46) (defScope s_d46) .none kV33 dc33 pm33 an33 (.ref a39) ct33),
    (PySem.W.fnOf "law" "law" (defArgs s_d46) (defBody s_d46) (defScope s_d46) .none kV33 dc33 pm33 an33 (.ref a39) ct33),
    (PySem.W.fnOf "law" "law" (defArgs s_d46) (defBody s_d46) (defScope s_d46) .none kV33 dc33 pm33 an33 (.ref a39) ct33),
    (PySem.W.fnOf "law" "law" (defArgs s_d46) (defBody s_d46) (defScope s_d46) .none kV33 dc33 pm33 an33 (.ref a39) ct33),
    (PySem.W.fnOf "__init__" "InvalidNumber.__init__" (defArgs s_i3) (defBody s_i3) (defScope s_i3) .none kV41 dc41 pm41 an41 cd41 ct41),
    (PySem.W.fnOf "__init__" "TooMany.__init__" (defArgs s_i4) (defBody s_i4) (defScope s_i4) .none kV42 dc42 pm42 an42 cd42 ct42)]
  let cvl : List Value := [u0, u1, u2, u3, u4]
  have OC3 : OexC K c3 := ⟨⟨_, _, _, _, _, _, _, _, _, _, _, _, _, _, _, cl3, ve3⟩, esa3, sb3, ty3, ke3⟩
  have OC4 : OexC K c4 := ⟨⟨_, _, _, _, _, _, _, _, _, _, _, _, _, _, _, cl4, ve4⟩, esa4, sb4, ty4, ke4⟩
  have IK5 : InsK K c5 := ⟨⟨pg5, hd5, po5, sa5⟩, ha5, hn, htk, hm5⟩
  have Z : ∀ base : Heap, Fx l.prog w K mg base T (fun n => al.getD n 0) (fun n => fl.getD n (PySem.W.fnOf "law" "law" (defArgs s_d46) (defBody s_d46) (defScope s_d46) .none kV33 dc33 pm33 an33 (.ref a39) ct33)) (fun n => cvl.getD n .none) [] := fun base =>
    { apart := apart_of (cs := [c0, c1, c2, c3, c4]) rfl apt (fun i hi => by
        have : i = 0 ∨ i = 1 ∨ i = 2 ∨ i = 3 ∨ i = 4 := by omega
        rcases this with rfl | rfl | rfl | rfl | rfl <;> rfl)
      b_abs := PySem.W.mg_none_of KX G b_abs
      b_enumerate := PySem.W.mg_none_of KX G b_enumerate
      b_int := PySem.W.mg_none_of KX G b_int
      b_isinstance := PySem.W.mg_none_of KX G b_isinstance
      b_len := PySem.W.mg_none_of KX G b_len
      b_list := PySem.W.mg_none_of KX G b_list
      b_max := PySem.W.mg_none_of KX G b_max
      b_min := PySem.W.mg_none_of KX G b_min
      b_range := PySem.W.mg_none_of KX G b_range
      b_repr := PySem.W.mg_none_of KX G b_repr
      b_sorted := PySem.W.mg_none_of KX G b_sorted
      b_tuple := PySem.W.mg_none_of KX G b_tuple
      b_type := PySem.W.mg_none_of KX G b_type
      cN := rfl
      cls5 := IK5.cl
      co__law_right := rfl
      co_law := rfl
      d_c20m0 := F12.binds fun _ _ _ _ _ _ us hl => match us, hl with | [_, _, _], _ => rfl
      d_c20m1 := F20.binds fun _ _ _ _ _ _ us hl => match us, hl with | [_, _], _ => rfl
      d_c20m2 := F31.binds fun _ _ _ _ _ _ us hl => match us, hl with | [_, _, _], _ => rfl
      d_c20m3 := F2.binds fun _ _ _ _ _ _ us hl => match us, hl with | [_], _ => rfl
      d_d10 := F3.binds fun _ _ _ _ _ _ us hl => match us, hl with | [_], _ => rfl
      d_d17 := F4.binds fun _ _ _ _ _ _ us hl => match us, hl with | [_], _ => rfl
      d_d18 := F5.binds fun _ _ _ _ _ _ us hl => match us, hl with | [_, _], _ => rfl
      d_d19 := F6.binds fun _ _ _ _ _ _ us hl => match us, hl with | [_, _], _ => rfl
      d_d21 := F7.binds fun _ _ _ _ _ _ us hl => match us, hl with | [_], _ => rfl
      d_d22 := F8.binds fun _ _ _ _ _ _ us hl => match us, hl with | [_, _], _ => rfl
      d_d23 := F9.binds fun _ _ _ _ _ _ us hl => match us, hl with | [_, _], _ => rfl
      d_d24 := F10.binds fun _ _ _ _ _ _ us hl => match us, hl with | [_, _], _ => rfl
      d_d25 := F11.binds fun _ _ _ _ _ _ us hl => match us, hl with | [_, _], _ => rfl
      d_d26 := F13.binds fun _ _ _ _ _ _ us hl => match us, hl with | [_, _], _ => rfl
      d_d27 := F14.binds fun _ _ _ _ _ _ us hl => match us, hl with | [_, _], _ => rfl
      d_d28 := F15.binds fun _ _ _ _ _ _ us hl => match us, hl with | [_, _], _ => rfl
      d_d29 := F16.binds fun _ _ _ _ _ _ us hl => match us, hl with | [_, _], _ => rfl
      d_d30 := F17.binds fun _ _ _ _ _ _ us hl => match us, hl with | [_, _], _ => rfl
      d_d31 := F18.binds fun _ _ _ _ _ _ us hl => match us, hl with | [_, _], _ => rfl
      d_d32 := F19.binds fun _ _ _ _ _ _ us hl => match us, hl with | [_, _], _ => rfl
      d_d33 := F21.binds fun _ _ _ _ _ _ us hl => match us, hl with | [_], _ => rfl
      d_d34 := F22.binds fun _ _ _ _ _ _ us hl => match us, hl with | [_, _], _ => rfl
      d_d35 := F23.binds fun _ _ _ _ _ _ us hl => match us, hl with | [_], _ => rfl
      d_d36 := F24.binds fun _ _ _ _ _ _ us hl => match us, hl with | [_, _], _ => rfl
      d_d37 := F25.binds fun _ _ _ _ _ _ us hl => match us, hl with | [_, _], _ => rfl
      d_d38 := F26.binds fun _ _ _ _ _ _ us hl => match us, hl with | [_, _], _ => rfl
      d_d39 := F27.binds fun _ _ _ _ _ _ us hl => match us, hl with | [_, _, _, _], _ => rfl
      d_d41 := F28.binds fun _ _ _ _ _ _ us hl => match us, hl with | [_, _], _ => rfl
      d_d42 := F29.binds fun _ _ _ _ _ _ us hl => match us, hl with | [_, _], _ => rfl
      d_d43 := F30.binds fun _ _ _ _ _ _ us hl => match us, hl with | [_, _], _ => rfl
      d_d44 := F36.binds fun _ _ _ _ _ _ us hl => match us, hl with | [_], _ => rfl
      d_d45 := F32.binds fun _ _ _ _ _ _ us hl => match us, hl with | [_], _ => rfl
      d_d8 := F0.binds fun _ _ _ _ _ _ us hl => match us, hl with | [_, _, _], _ => rfl
      d_d9 := F1.binds fun _ _ _ _ _ _ us hl => match us, hl with | [_, _, _], _ => rfl
      d_i3 := F41.binds fun _ _ _ _ _ _ us hl => match us, hl with | [_, _], _ => rfl
      d_i4 := F42.binds fun _ _ _ _ _ _ us hl => match us, hl with | [_, _], _ => rfl
      e3 := ⟨ega3, egg3, sb3, ehd3, eno3⟩
      e4 := ⟨ega4, egg4, sb4, ehd4, eno4⟩
      ex := rfl
      f_c20m0 := F12
      f_c20m1 := F20
      f_c20m2 := F31
      f_c20m3 := F2
      f_c20m4 := F34
      f_c20m5 := F35
      f_d10 := F3
      f_d17 := F4
      f_d18 := F5
      f_d19 := F6
      f_d21 := F7
      f_d22 := F8
      f_d23 := F9
      f_d24 := F10
      f_d25 := F11
      f_d26 := F13
      f_d27 := F14
      f_d28 := F15
      f_d29 := F16
      f_d30 := F17
      f_d31 := F18
      f_d32 := F19
      f_d33 := F21
      f_d34 := F22
      f_d35 := F23
      f_d36 := F24
      f_d37 := F25
      f_d38 := F26
      f_d39 := F27
      f_d41 := F28
      f_d42 := F29
      f_d43 := F30
      f_d44 := F36
      f_d45 := F32
      f_d46 := F33
      f_d8 := F0
      f_d9 := F1
      g_Web := rfl
      g_beside := rfl
      g_joined := rfl
      g_opposite := rfl
      g_part := rfl
      g_pieces := rfl
      g_recoloured := rfl
      g_renamed := rfl
      g_tuple := rfl
      i3 := n41
      i4 := n42
      isi := fun hX => isi_of (us := gU [c0, c1, c2, c3, c4, c5, c6]) (by decide) (fun kl hk => by
        simp only [iTab, List.mem_cons, List.not_mem_nil, or_false] at hk
        rcases hk with rfl | rfl | rfl | rfl | rfl | rfl | rfl
        all_goals first | exact .ty _ | exact .own _) (fun o ho => by
        simp only [iOwn, List.mem_cons, List.not_mem_nil, or_false] at ho
        rcases ho with rfl
        all_goals (rw [hX]; first | exact IK5)) (fun o ho => by
        simp only [iOwn, List.mem_cons, List.not_mem_nil, or_false] at ho
        rcases ho with rfl
        all_goals (rw [hX]; first | exact me5)) (by rw [hX]; exact isi)
      k := rfl
      k0 := ke0
      k1 := ke1
      k2 := ke2
      len5 := ⟨n2, fn2, k2⟩
      me_c20m1 := ⟨n20, fn20, k20⟩
      me_c20m2 := ⟨n31, fn31, k31⟩
      mk5 := ⟨mi5, n12, fn12, kc5⟩
      n_GREATEST_COLOUR := PySem.W.mg_of KX G nv4
      n_InvalidNumber := PySem.W.mg_of KX G nc3
      n_InvalidOperation := PySem.W.mg_of KX G nc2
      n_InvalidRow := PySem.W.mg_of KX G nc1
      n_InvalidWeb := PySem.W.mg_of KX G nc0
      n_LEAST_COLOUR := PySem.W.mg_of KX G nv3
      n_MOST_PLACES := PySem.W.mg_of KX G nv1
      n_MOST_POINTS := PySem.W.mg_of KX G nv0
      n_PAIRS := PySem.W.mg_of KX G nv2
      n_TooMany := PySem.W.mg_of KX G nc4
      n_Web := PySem.W.mg_of KX G nc5
      n__law_met := PySem.W.mg_of KX G n36
      n__law_right := PySem.W.mg_of KX G n32
      n__law_wb_pot := PySem.W.mg_of KX G n28
      n__law_wb_toss := PySem.W.mg_of KX G n29
      n__law_wb_turned := PySem.W.mg_of KX G n30
      n_are_between := PySem.W.mg_of KX G n1
      n_are_colours := PySem.W.mg_of KX G n4
      n_are_like := PySem.W.mg_of KX G n27
      n_are_ties := PySem.W.mg_of KX G n5
      n_atom_at := PySem.W.mg_of KX G n25
      n_atom_of := PySem.W.mg_of KX G n26
      n_beside := PySem.W.mg_of KX G n18
      n_check_both := PySem.W.mg_of KX G n17
      n_check_point := PySem.W.mg_of KX G n8
      n_check_row := PySem.W.mg_of KX G n10
      n_check_web := PySem.W.mg_of KX G n7
      n_is_ascending := PySem.W.mg_of KX G n3
      n_is_between := PySem.W.mg_of KX G n0
      n_is_lot := PySem.W.mg_of KX G n11
      n_is_row := PySem.W.mg_of KX G n24
      n_is_row_of := PySem.W.mg_of KX G n9
      n_joined := PySem.W.mg_of KX G n19
      n_near_points := PySem.W.mg_of KX G n6
      n_opposite := PySem.W.mg_of KX G n21
      n_part := PySem.W.mg_of KX G n13
      n_piece_with := PySem.W.mg_of KX G n22
      n_pieces := PySem.W.mg_of KX G n23
      n_recoloured := PySem.W.mg_of KX G n15
      n_renamed := PySem.W.mg_of KX G n14
      n_ties_beside := PySem.W.mg_of KX G n16
      na5__near := na5__near
      na5_colours := na5_colours
      na5_degrees := na5_degrees
      na5_ties := na5_ties
      o3 := OC3
      o4 := OC4
      ok_i3 := in_i3 F41 (PySem.W.mg_of KX G nc6) bsp6 ty6 brd6 bfc6 OC3 eno3
      ok_i4 := in_i4 F42 (PySem.W.mg_of KX G nc6) bsp6 ty6 brd6 bfc6 OC4 eno4
      rs0 := fun hX => raises_own (by rw [hX]; exact sb0) (by rw [hX]; exact ty0)
      rs1 := fun hX => raises_own (by rw [hX]; exact sb1) (by rw [hX]; exact ty1)
      rs2 := fun hX => raises_own (by rw [hX]; exact sb2) (by rw [hX]; exact ty2)
      t3 := eti3
      t4 := eti4
      tb := rfl
      tne := tne
      tyo := tyOwn_of tyo
      v_GREATEST_COLOUR := vv4
      v_LEAST_COLOUR := vv3
      v_MOST_PLACES := vv1
      v_MOST_POINTS := vv0
      v_PAIRS := kv_of (T := T) rfl _ _ vv2
      x0 := ex0
      x1 := ex1
      x2 := ex2 }
  refine ⟨(PySem.W.fnOf "law" "law" (defArgs s_d46) (defBody s_d46) (defScope s_d46) .none kV33 dc33 pm33 an33 (.ref a39) ct33), [(a37, a38), (a39, a40)], spM T 1 (mFn 8 m_d46), ?_⟩
  have two : ∀ (R : Addr × Addr → Prop), R (a37, a38) → R (a39, a40) → ∀ p ∈ [(a37, a38), (a39, a40)], R p := fun R r1 r2 p hp => by
    simp only [List.mem_cons, List.not_mem_nil, or_false] at hp
    rcases hp with rfl | rfl
    · exact r1
    · exact r2
  have t1 := ts _ (List.mem_cons_self)
  have t2 := ts _ (List.mem_cons_of_mem _ List.mem_cons_self)
  constructor
  · exact two _ t1 t2
  · exact two _ ct_law_right ctlaw
  · exact two _ (PySem.W.codeHd_of_K KX cc_law_right) (PySem.W.codeHd_of_K KX cclaw)
  · exact fun s v => .of_eq rfl
  · intro H a ns hn hb hT hS
    obtain ⟨s1, s2⟩ := say ns hn hb
    refine law_says ?_ hS s1 s2
    intro p hp
    simp only [T, List.mem_cons, List.not_mem_nil, or_false] at hp
    rcases hp with rfl | rfl
    · exact .nil (hT _ List.mem_cons_self)
    · exact .nil (hT _ (List.mem_cons_of_mem _ List.mem_cons_self))
  · intro base _ _ hTB
    exact okG_d46 (Z base) (hTB _ List.mem_cons_self) (hTB _ (List.mem_cons_of_mem _ List.mem_cons_self))
end
end G

namespace G
open PySem PySem.Spec PyProof.Rows L2 M
def isT' : Res PV → Bool
  | .ok (.bl b) _ => b
  | _ => false
def rights (lo n : Nat) : Bool := (List.range n).all fun k => isT' (mFn 16 m_d45 [.int ((lo + k : Nat) : Int)] [])
theorem rg0 : rights 0 102 = true := by decide +kernel
theorem rg1 : rights 102 102 = true := by decide +kernel
theorem rg2 : rights 204 102 = true := by decide +kernel
theorem rg3 : rights 306 102 = true := by decide +kernel
theorem rg4 : rights 408 102 = true := by decide +kernel
theorem rg5 : rights 510 102 = true := by decide +kernel
theorem rg6 : rights 612 102 = true := by decide +kernel
theorem rg7 : rights 714 102 = true := by decide +kernel
theorem rg8 : rights 816 102 = true := by decide +kernel
theorem rg9 : rights 918 102 = true := by decide +kernel
theorem right_in {lo n k : Nat} (h : rights lo n = true) (h1 : lo ≤ k) (h2 : k < lo + n) : isT' (mFn 16 m_d45 [.int (k : Int)] []) = true := by
  have q := List.all_eq_true.mp h (k - lo) (List.mem_range.mpr (by omega))
  rwa [show lo + (k - lo) = k by omega] at q
theorem right_ok {k : Nat} (h : k < 1017) : isT' (mFn 16 m_d45 [.int (k : Int)] []) = true := by
  rcases Nat.lt_or_ge k 102 with z | z
  · exact right_in rg0 (by omega) (by omega)
  rcases Nat.lt_or_ge k 204 with z | z
  · exact right_in rg1 (by omega) (by omega)
  rcases Nat.lt_or_ge k 306 with z | z
  · exact right_in rg2 (by omega) (by omega)
  rcases Nat.lt_or_ge k 408 with z | z
  · exact right_in rg3 (by omega) (by omega)
  rcases Nat.lt_or_ge k 510 with z | z
  · exact right_in rg4 (by omega) (by omega)
  rcases Nat.lt_or_ge k 612 with z | z
  · exact right_in rg5 (by omega) (by omega)
  rcases Nat.lt_or_ge k 714 with z | z
  · exact right_in rg6 (by omega) (by omega)
  rcases Nat.lt_or_ge k 816 with z | z
  · exact right_in rg7 (by omega) (by omega)
  rcases Nat.lt_or_ge k 918 with z | z
  · exact right_in rg8 (by omega) (by omega)
  · exact right_in rg9 (by omega) (by omega)
end G
namespace G
open PySem PySem.Spec PyProof.Rows L2 M
/-- the script, either kind of list -/
def Scr (ns : List Int) (S : PV) : Prop := S = .lst (ns.map PV.int) ∨ S = .kst (ns.map PV.int)
theorem scr_len {ns : List Int} {S : PV} (h : Scr ns S) (m : Mem) : cLen [S] m = some (.int ns.length) := by
  rcases h with rfl | rfl <;> simp [cLen, lstOf]
theorem scr_at {ns : List Int} {S : PV} (h : Scr ns S) (m : Mem) {i : Nat} (hi : i < ns.length) : fIx S (.int i) m = some (.int ns[i]) := by
  rcases h with rfl | rfl <;> simp [fIx, lstOf, atI, ixN, hi]
theorem log_le {i : Int} {a : Nat} (h : i.natAbs < 2 ^ a) : i.natAbs.log2 ≤ a := by
  by_cases z : i.natAbs = 0
  · rw [z]; exact Nat.zero_le _
  · exact Nat.le_of_lt ((Nat.log2_lt z).mpr h)
theorem mul_ok {i j : Int} (a b : Nat) (hi : i.natAbs < 2 ^ a) (hj : j.natAbs < 2 ^ b) (hab : a + b ≤ 900000) (m : Mem) : fMulW (.int i) (.int j) m = some (.int (i * j)) := by
  have h1 := log_le hi
  have h2 := log_le hj
  simp [fMulW, fI, bitsLe]
  omega
theorem mod_ok {i j : Int} (hj : 0 < j) (m : Mem) : fModI (.int i) (.int j) m = some (.int (i % j)) := by simp [fModI, fI, hj]
theorem pot_cell {ns : List Int} {S : PV} (h : Scr ns S) (spot : Nat) (hs : spot < 2) (m : Mem) {r1 r2 r3 : Option PV} : ∃ c : Int, (mIf (mTb (mBin (orF fLtI fLtT) (mVar 1) (mCl (orC cLen (cLenI 5 (mFn 1 m_c20m3))) (mCons (mVar 0) mNil)))) (mCl cInt (mCons (mPick (mBin fIx (mVar 0) (mVar 1)) (mGet (mVar 0) (mVar 1))) mNil)) (mBin fAdd (mBin (orF fMulW fRepW) (mC (.int 397)) (mVar 1)) (mC (.int 83)))) [some S, some (.int spot), r1, r2, r3] m = .ok (.int c) m := by
  have q1 := mul_ok (i := 397) (j := spot) 60 60 (by decide) (by omega) (by decide) m
  by_cases z : spot < ns.length
  · refine ⟨ns[spot], ?_⟩
    simp [mIf, mTb, mBin, orF, fLtI, fI, mVar, mCl, orC, scr_len h, mCons, mNil, Res.bind, oP, z, mPick, pickR, scr_at h m z, cInt]
  · refine ⟨397 * spot + 83, ?_⟩
    simp [mIf, mTb, mBin, orF, fLtI, fI, mVar, mCl, orC, scr_len h, mCons, mNil, Res.bind, oP, z, mC, q1, fAdd, fAddI]
end G

namespace G
open PySem PySem.Spec PyProof.Rows L2 M
theorem pow_ok {i j : Int} (h : (decide (0 ≤ j) && decide (((i.natAbs.log2 + 1 : Nat) : Int) * j ≤ 2 ^ 20)) = true) (m : Mem) : fPowX (.int i) (.int j) m = some (.int (i ^ j.toNat)) := if_pos h
def TEN : Int := (10 : Int) ^ (56 : Int).toNat
def BIG : Int := TEN ^ (7 : Int).toNat
def LOW : Int := (10 : Int) ^ (16 : Int).toNat
theorem pot_ok {ns : List Int} {S : PV} (h : Scr ns S) (spot : Nat) (hs : spot < 2) (m : Mem) : ∃ A B : Int, mFn 5 m_d41 [S, .int spot] m = .ok (.ref m.length) (m ++ [.lst [.int A, .int B, .int 0]]) ∧ 0 ≤ A ∧ 0 ≤ B ∧ B < 2305843009213693951 := by
  obtain ⟨c, hc⟩ := pot_cell h spot hs m (r1 := none) (r2 := none) (r3 := none)
  have hp1 : fPowX (.int 10) (.int 56) m = some (.int TEN) := pow_ok (by decide +kernel) m
  have hp2 : fPowX (.int TEN) (.int 7) m = some (.int BIG) := pow_ok (by decide +kernel) m
  have hp3 : fPowX (.int 10) (.int 16) m = some (.int LOW) := pow_ok (by decide +kernel) m
  have b0 : (0 : Int) < BIG := by decide +kernel
  generalize hg : (if c < 0 then -c else c) % BIG = g
  have hg2 : fModI (.int (if c < 0 then -c else c)) (.int BIG) m = some (.int g) := by rw [mod_ok b0, hg]
  have g0 : 0 ≤ g := by rw [← hg]; exact Int.emod_nonneg _ (by omega)
  have q0 := mod_ok (i := g) (j := 2305843009213693613) (by decide) m
  have n0 := Int.emod_nonneg g (b := 2305843009213693613) (by decide)
  have n1 := Int.emod_lt_of_pos g (b := 2305843009213693613) (by decide)
  have q1 := mul_ok (i := g % 2305843009213693613) (j := 61) 61 61 (by omega) (by decide) (by decide) m
  have q2 := mul_ok (i := 5003) (j := spot) 60 60 (by decide) (by omega) (by decide) m
  have q3 := mul_ok (i := 43) (j := if c < 0 then 1 else 0) 60 60 (by decide) (by split <;> decide) (by decide) m
  generalize hsd : g % 2305843009213693613 * 61 + 5003 * (spot : Int) + 43 * (if c < 0 then 1 else 0) + 29 = sd
  have q4 := mod_ok (i := sd) (j := 2305843009213693951) (by decide) m
  refine ⟨if g - LOW > 0 then g - LOW else 0, sd % 2305843009213693951, ?_, by split <;> omega, Int.emod_nonneg _ (by decide), Int.emod_lt_of_pos _ (by decide)⟩
  unfold m_d41
  simp only [mFn, mSeq, mSet, List.map_cons, List.map_nil, List.length_cons, List.length_nil]
  show (match (match sB (mIf _ _ _ [some S, some (.int spot), none, none, none] m) _ _ with
    | .nx e1 m1 => _
    | x => x) with
    | .nx _ m' => _
    | .rt v m' => _
    | .exc c ws _ m' => _
    | _ => _) = _
  rw [hc]
  simp [sB, mBin, mCl, mCons, mNil, mVar, mC, Res.bind, oP, cInt, cAbs, hp1, hp2, hp3, hg2, orF, q0, q1, q2, q3, q4, hsd, fAdd, fAddI, fI, fLtI, mRet, mN, mLstF, cMax2, fSubI, szOk]
end G

namespace G
open PySem PySem.Spec PyProof.Rows L2 M
theorem at3 {A B C : PV} : atI [A, B, C] 0 = some A ∧ atI [A, B, C] 1 = some B ∧ atI [A, B, C] 2 = some C := ⟨rfl, rfl, rfl⟩
theorem ix3 : ixN 3 0 = some 0 ∧ ixN 3 2 = some 2 := ⟨rfl, rfl⟩
theorem div_ok {i j : Int} (hj : 0 < j) (h : j.natAbs < 2 ^ 8000) (m : Mem) : fDivW (.int i) (.int j) m = some (.int (i / j)) := by
  have q := log_le h
  simp [fDivW, fI, hj]
  exact q
theorem big1000 : (1000 : Int).natAbs < 2 ^ 8000 := Nat.lt_of_lt_of_le (by decide : (1000 : Int).natAbs < 2 ^ 20) (Nat.pow_le_pow_right (by decide) (by decide))
theorem big65537 : (65537 : Int).natAbs < 2 ^ 8000 := Nat.lt_of_lt_of_le (by decide : (65537 : Int).natAbs < 2 ^ 20) (Nat.pow_le_pow_right (by decide) (by decide))
theorem toss_ok {m : Mem} {i : Nat} {A B : Int} (hi : i < m.length) (hm : m[i]? = some (.lst [.int A, .int B, .int 0])) (hA : 0 ≤ A) (hB : 0 ≤ B) (hB2 : B < 2305843009213693951) :
    ∃ (k : Nat) (o : MO), mFn 5 m_d42 [.ref i, .int 1000] m = .ok (.int k) (m.set i o) ∧ k < 1000 := by
  have l0 : ∀ x y : PV, lstOf (.ref i) (m.set i (.lst [x, .int B, y])) = some [x, .int B, y] := fun x y => by simp [lstOf, List.getElem?_set, hi]
  have lm : lstOf (.ref i) m = some [.int A, .int B, .int 0] := by simp [lstOf, hm]
  obtain ⟨a0, a1, a2⟩ := @at3 (.int A) (.int B) (.int 0)
  obtain ⟨b0, b1, b2⟩ := @at3 (.int A) (.int B) (.int 1)
  obtain ⟨x0, x2⟩ := ix3
  by_cases z : 0 < A
  · refine ⟨(A % 1000).toNat, .lst [.int (A / 1000), .int B, .int 0], ?_, by omega⟩
    have q1 := mod_ok (i := A) (j := 1000) (by decide) m
    have q2 := div_ok (i := A) (j := 1000) (by decide) big1000 m
    have e : ((A % 1000).toNat : Int) = A % 1000 := Int.toNat_of_nonneg (by omega)
    unfold m_d42
    simp [mFn, mSeq, mIfS, mTb, mBin, mPick, pickR, fIx, mVar, mC, Res.bind, sB, oP, fGtI, fI, lm, a0, z, mSet, mCl, cInt, mCons, mNil, q1, q2, mPickS, mAsg, gSubL, wrL, Res.calm, hm, x0, mRet, e]
  · have lm2 : lstOf (.ref i) (m.set i (.lst [.int A, .int B, .int 1])) = some [.int A, .int B, .int 1] := l0 _ _
    have q1 := mul_ok (i := 49979693) (j := 1) 60 60 (by decide) (by decide) (by decide)
    have q2 := mul_ok (i := 19) (j := 1) 60 60 (by decide) (by decide) (by decide)
    generalize ho : (B + 49979693 * 1) % 2305843009213693951 = one
    have o0 : 0 ≤ one := by rw [← ho]; exact Int.emod_nonneg _ (by decide)
    have o1 : one < 2305843009213693951 := by rw [← ho]; exact Int.emod_lt_of_pos _ (by decide)
    have q3 : ∀ m, fModI (.int (B + 49979693 * 1)) (.int 2305843009213693951) m = some (.int one) := fun m => by rw [mod_ok (by decide), ho]
    have q4 := mul_ok (i := one) (j := one) 61 61 (by omega) (by omega) (by decide)
    generalize ht : (one * one + 86028121) % 2305843009213693921 = tw
    have t0 : 0 ≤ tw := by rw [← ht]; exact Int.emod_nonneg _ (by decide)
    have t1 : tw < 2305843009213693921 := by rw [← ht]; exact Int.emod_lt_of_pos _ (by decide)
    have q5 : ∀ m, fModI (.int (one * one + 86028121)) (.int 2305843009213693921) m = some (.int tw) := fun m => by rw [mod_ok (by decide), ht]
    have q6 := mul_ok (i := tw) (j := 32452867) 61 61 (by omega) (by decide) (by decide)
    generalize hw : tw * 32452867 + one + 19 * 1 = two
    have q7 := fun m => div_ok (i := two) (j := 65537) (by decide) big65537 m
    have q8 := fun m => mod_ok (i := two / 65537) (j := 1000) (by decide) m
    have k0 := Int.emod_nonneg (two / 65537) (b := 1000) (by decide)
    have k1 := Int.emod_lt_of_pos (two / 65537) (b := 1000) (by decide)
    refine ⟨((two / 65537) % 1000).toNat, .lst [.int A, .int B, .int 1], ?_, by omega⟩
    have e : (((two / 65537) % 1000).toNat : Int) = (two / 65537) % 1000 := Int.toNat_of_nonneg k0
    unfold m_d42
    simp only [Int.mul_one] at q1 q2 q3 hw
    simp [mFn, mSeq, mIfS, mTb, mBin, mPick, pickR, fIx, mVar, mC, Res.bind, sB, oP, fGtI, fI, lm, lm2, a0, a1, a2, b0, b1, b2, z, mSet, mCl, cInt, mCons, mNil, mPass, mPickS, mAsg, gSubL, wrL, Res.calm, hm, x0, x2, mRet, e, orF, fAdd, fAddI, q1, q2, q3, q4, q5, q6, hw, q7, q8]
end G

namespace G
open PySem PySem.Spec PyProof.Rows L2 M
abbrev turnB : MS := (mIfS (mNotT (mTb (mCallP 1 (mFn 16 m_d45) (mCons (mBin fAdd (mVar 2) (mVar 3)) mNil))))
  (mRet (mC (.bl false)))
  mPass)
abbrev spotB : MS := (mSeq (mSet 2 (mTr0 (mCall 2 (mFn 5 m_d42) (mCons (mCall 2 (mFn 5 m_d41) (mCons (mVar 0) (mCons (mVar 1) mNil))) (mCons (mC (.int 1000)) mNil)))))
  (mFor (mIR1 (mCons (mC (.int 18)) mNil)) (gN 3) turnB))
theorem turn_one (R : ∀ k : Nat, k < 1017 → isT' (mFn 16 m_d45 [.int (k : Int)] []) = true) {S sp : Option PV} {k t : Nat} {r4 r5 r6 r7 : Option PV} (h : k + t < 1017) (m : Mem) :
    turnB [S, sp, some (.int (k : Int)), some (.int (t : Int)), r4, r5, r6, r7] m = .nx [S, sp, some (.int (k : Int)), some (.int (t : Int)), r4, r5, r6, r7] m := by
  have q := R _ h
  have q2 : runP 1 (mFn 16 m_d45) [.int ((k : Int) + (t : Int))] m = .ok (.bl true) m := by
    rw [← Int.natCast_add]
    unfold runP
    rw [if_pos (show ([PV.int ((k + t : Nat) : Int)].length == 1 && noRefs [PV.int ((k + t : Nat) : Int)]) = true by simp [noRefs, noRef])]
    cases e : mFn 16 m_d45 [.int ((k + t : Nat) : Int)] [] with
    | ok v m' =>
      rw [e] at q
      cases v <;> simp [isT'] at q
      subst q
      rfl
    | exc c ws m' => rw [e] at q; simp [isT'] at q
    | bad => rw [e] at q; simp [isT'] at q
  simp [turnB, mIfS, mNotT, mTb, mCallP, mCons, mBin, mVar, mNil, Res.bind, oP, fAdd, orF, fAddI, fI, q2, sB, mPass]
theorem turns (R : ∀ k : Nat, k < 1017 → isT' (mFn 16 m_d45 [.int (k : Int)] []) = true) {S sp : Option PV} {k : Nat} {r4 r5 r6 r7 : Option PV} (h : k < 1000) (m : Mem) :
    ∀ (d n i : Nat) (r3 : Option PV), i + d = 18 → d < n → ∃ z, forL (gN 3) turnB (rngI 0 18) n i [S, sp, some (.int (k : Int)), r3, r4, r5, r6, r7] m = .nx [S, sp, some (.int (k : Int)), z, r4, r5, r6, r7] m
  | d, 0, i, r3, e, hn => absurd hn (Nat.not_lt_zero _)
  | 0, n + 1, i, r3, e, hn => ⟨r3, by
    unfold forL
    rw [show rngI 0 18 m i = some none by unfold rngI; rw [if_neg (by omega)]]⟩
  | d + 1, n + 1, i, r3, e, hn => by
    obtain ⟨z, hz⟩ := turns R h m (S := S) (sp := sp) (r4 := r4) (r5 := r5) (r6 := r6) (r7 := r7) d n (i + 1) (some (.int (i : Int))) (by omega) (by omega)
    refine ⟨z, ?_⟩
    unfold forL
    rw [show rngI 0 18 m i = some (some (.int (i : Int))) by unfold rngI; rw [if_pos (by omega)]; simp]
    show (match turnB [S, sp, some (.int (k : Int)), some (.int (i : Int)), r4, r5, r6, r7] m with
      | .nx e2 m2 => forL (gN 3) turnB (rngI 0 18) n (i + 1) e2 m2
      | .ct e2 m2 => forL (gN 3) turnB (rngI 0 18) n (i + 1) e2 m2
      | .bk e2 m2 => .nx e2 m2
      | x => x) = _
    rw [turn_one R (by omega) m]
    exact hz
/-- one spot -/
theorem spot_one (R : ∀ k : Nat, k < 1017 → isT' (mFn 16 m_d45 [.int (k : Int)] []) = true) {ns : List Int} {S : PV} (h : Scr ns S) (sp : Nat) (hs : sp < 2) {r2 r3 r4 r5 r6 r7 : Option PV} :
    ∃ k z, spotB [some S, some (.int (sp : Int)), r2, r3, r4, r5, r6, r7] [] = .nx [some S, some (.int (sp : Int)), k, z, r4, r5, r6, r7] [] := by
  obtain ⟨A, B, p, a0, b0, b1⟩ := pot_ok h sp hs []
  obtain ⟨k, o, q, hk⟩ := toss_ok (m := [] ++ [.lst [.int A, .int B, .int 0]]) (i := 0) (by simp) (by simp) a0 b0 b1
  obtain ⟨z, hz⟩ := turns R hk [] (S := some S) (sp := some (.int (sp : Int))) (r4 := r4) (r5 := r5) (r6 := r6) (r7 := r7) 18 FUEL 0 r3 rfl (by decide)
  refine ⟨some (.int (k : Int)), z, ?_⟩
  rw [List.nil_append] at p q
  rw [show ([] : Mem).length = 0 from rfl] at p
  simp [spotB, mSeq, mSet, mTr0, noRef, mCall, mCons, mVar, mNil, mC, Res.bind, p, q, sB, mFor, mIR1, big62, hz]
end G

namespace G
open PySem PySem.Spec PyProof.Rows L2 M
def lawF : MS := (mFor (mIR1 (mCons (mCl cMax2 (mCons (mC (.int 1)) (mCons (mCl cMin2 (mCons (mC (.int 2)) (mCons (mCl (orC cLen (cLenI 5 (mFn 1 m_c20m3))) (mCons (mVar 0) mNil)) mNil))) mNil))) mNil)) (gN 1)
  (mSeq (mSet 2 (mTr0 (mCall 2 (mFn 5 m_d42) (mCons (mCall 2 (mFn 5 m_d41) (mCons (mVar 0) (mCons (mVar 1) mNil))) (mCons (mC (.int 1000)) mNil)))))
  (mFor (mIR1 (mCons (mC (.int 18)) mNil)) (gN 3)
  (mIfS (mNotT (mTb (mCallP 1 (mFn 16 m_d45) (mCons (mBin fAdd (mVar 2) (mVar 3)) mNil))))
  (mRet (mC (.bl false)))
  mPass))))
def lawR : MS := (mSeq (mAsg (mTup (mCons (mMk 5 4 3 (mFn 4 m_c20m0) (mCons (mBin (orF fMulW fRepW) (mTup (mCons (mC (.int 9)) (mCons (mUn fNeg (mC (.int 1))) mNil))) (mC (.int 20))) (mCons (mTup (mCons (mTup (mCons (mC (.int 0)) (mCons (mC (.int 39)) mNil))) mNil)) mNil))) (mCons (mMk 5 4 3 (mFn 4 m_c20m0) (mCons (mTup (mCons (mC (.int 0)) mNil)) (mCons (mTup mNil) mNil))) mNil))) (gTupM 2 (gsCons (gN 4) (gsCons (gN 5) gsNil))))
  (mSeq (mSet 6 (mN (mLstF (mCons (mMet 2 5 metL metF (mCallP 2 (mFn 2 m_d31) (mCons (mVar 4) (mCons (mVar 5) mNil)))) mNil))))
  (mSeq (mExpr (mMt qAppend isLst (mVar 6) (mCons (mMet 2 5 metL metF (mCallP 2 (mFn 6 m_d32) (mCons (mVar 4) (mCons (mVar 5) mNil)))) mNil)))
  (mSeq (mExpr (mMt qAppend isLst (mVar 6) (mCons (mMet 2 5 metL metF (mCallP 2 (mFn 6 m_d32) (mCons (mVar 5) (mCons (mVar 4) mNil)))) mNil)))
  (mSeq (mExpr (mMt qAppend isLst (mVar 6) (mCons (mMet 2 5 metL metF (mCallP 2 (mFn 2 m_d31) (mCons (mVar 4) (mCons (mMk 5 4 3 (mFn 4 m_c20m0) (mCons (mTup mNil) (mCons (mTup mNil) mNil))) mNil)))) mNil)))
  (mSeq (mExpr (mMt qAppend isLst (mVar 6) (mCons (mMet 2 5 metL metF (mCallP 2 (mFn 2 m_d38) (mCons (mVar 4) (mCons (mTup (mCons (mC (.int 39)) (mCons (mC (.int 39)) (mCons (mC (.int 0)) (mCons (mC (.int 39)) mNil))))) mNil)))) mNil)))
  (mSeq (mExpr (mMt qAppend isLst (mVar 6) (mCons (mMet 2 5 metL metF (mCallP 2 (mFn 8 m_d26) (mCons (mVar 4) (mCons (mTup mNil) mNil)))) mNil)))
  (mSeq (mExpr (mMt qAppend isLst (mVar 6) (mCons (mMet 2 5 metL metF (mCallP 2 (mFn 8 m_d27) (mCons (mMk 5 4 3 (mFn 4 m_c20m0) (mCons (mTup mNil) (mCons (mTup mNil) mNil))) (mCons (mTup mNil) mNil)))) mNil)))
  (mRet (mBin fEqD (mVar 6) (mL (mLc (mPick (mIT (mBin fAdd (mL (mRepF (mLstF (mCons (mC (.str "many 40")) mNil)) (mC (.int 3)))) (mL (mRepF (mLstF (mCons (mC (.str "fine")) mNil)) (mC (.int 4)))))) (mIL (mBin fAdd (mL (mRepF (mLstF (mCons (mC (.str "many 40")) mNil)) (mC (.int 3)))) (mL (mRepF (mLstF (mCons (mC (.str "fine")) mNil)) (mC (.int 4))))))) (gN 7) mYes (mTup (mCons (mC (.str "met")) (mCons (mVar 7) mNil))) [7]))))))))))))
theorem law_eq : m_d46 = mSeq lawF lawR := rfl
def isR : SRes → Bool
  | .rt (.bl b) _ => b
  | _ => false
theorem rest1 (S : PV) (r1 k z : Option PV) : isR (lawR [some S, r1, k, z, none, none, none, none] []) = true := by kernel_rfl
theorem Rt : ∀ k : Nat, k < 1017 → isT' (mFn 16 m_d45 [.int (k : Int)] []) = true := fun k h => right_ok h
theorem forL_go {mg : MG} {body : MS} {it : MI} {n i : Nat} {e e1 e2 : M.Env} {m m1 m2 : Mem} {x : PV} (hi : it m i = some (some x)) (hg : mg x e m = .ok e1 m1) (hb : body e1 m1 = .nx e2 m2) : forL mg body it (n + 1) i e m = forL mg body it n (i + 1) e2 m2 := by
  show (match it m i with
    | none => _
    | some none => _
    | some (some x) => _) = _
  rw [hi]
  show (match mg x e m with
    | .ok e1 m1 => _
    | _ => _) = _
  rw [hg]
  show (match body e1 m1 with
    | .nx e2 m2 => forL mg body it n (i + 1) e2 m2
    | .ct e2 m2 => forL mg body it n (i + 1) e2 m2
    | .bk e2 m2 => .nx e2 m2
    | x => x) = _
  rw [hb]
theorem forL_end {mg : MG} {body : MS} {it : MI} {n i : Nat} {e : M.Env} {m : Mem} (hi : it m i = some none) : forL mg body it (n + 1) i e m = .nx e m := by
  show (match it m i with
    | none => _
    | some none => _
    | some (some x) => _) = _
  rw [hi]
theorem loop {ns : List Int} {S : PV} (h : Scr ns S) : ∃ r1 k z, lawF [some S, none, none, none, none, none, none, none] [] = .nx [some S, r1, k, z, none, none, none, none] [] := by
  obtain ⟨k1, z1, h1⟩ := spot_one Rt h 0 (by decide) (r2 := none) (r3 := none) (r4 := none) (r5 := none) (r6 := none) (r7 := none)
  obtain ⟨k2, z2, h2⟩ := spot_one Rt h 1 (by decide) (r2 := k1) (r3 := z1) (r4 := none) (r5 := none) (r6 := none) (r7 := none)
  have l0 := scr_len h
  by_cases z : ns.length < 2
  · refine ⟨some (.int 0), k1, z1, ?_⟩
    have hI : mIR1 (mCons (mCl cMax2 (mCons (mC (.int 1)) (mCons (mCl cMin2 (mCons (mC (.int 2)) (mCons (mCl (orC cLen (cLenI 5 (mFn 1 m_c20m3))) (mCons (mVar 0) mNil)) mNil))) mNil))) mNil) [some S, none, none, none, none, none, none, none] [] = .ok (rngI 0 1) [] := by
      have q : ¬ (1 : Int) < (ns.length : Int) := by omega
      have z2 : (ns.length : Int) < 2 := by omega
      simp [mIR1, mCons, mCl, mC, mNil, mVar, orC, l0, Res.bind, oP, cMin2, cMax2, big62, q, z2]
    unfold lawF mFor
    rw [hI]
    show forL (gN 1) spotB (rngI 0 1) (999999 + 1) 0 _ _ = _
    rw [forL_go (x := .int ((0 : Nat) : Int)) (by simp [rngI]) (e1 := [some S, some (.int ((0 : Nat) : Int)), none, none, none, none, none, none]) rfl h1]
    exact forL_end (n := 999998) (by simp [rngI])
  · refine ⟨some (.int 1), k2, z2, ?_⟩
    have hI : mIR1 (mCons (mCl cMax2 (mCons (mC (.int 1)) (mCons (mCl cMin2 (mCons (mC (.int 2)) (mCons (mCl (orC cLen (cLenI 5 (mFn 1 m_c20m3))) (mCons (mVar 0) mNil)) mNil))) mNil))) mNil) [some S, none, none, none, none, none, none, none] [] = .ok (rngI 0 2) [] := by
      have q : ¬ (ns.length : Int) < 2 := by omega
      simp [mIR1, mCons, mCl, mC, mNil, mVar, orC, l0, Res.bind, oP, cMin2, cMax2, big62, q]
    unfold lawF mFor
    rw [hI]
    show forL (gN 1) spotB (rngI 0 2) (999999 + 1) 0 _ _ = _
    rw [forL_go (x := .int ((0 : Nat) : Int)) (by simp [rngI]) (e1 := [some S, some (.int ((0 : Nat) : Int)), none, none, none, none, none, none]) rfl h1]
    show forL (gN 1) spotB (rngI 0 2) (999998 + 1) 1 _ _ = _
    rw [forL_go (x := .int ((1 : Nat) : Int)) (by simp [rngI]) (e1 := [some S, some (.int ((1 : Nat) : Int)), k1, z1, none, none, none, none]) rfl h2]
    exact forL_end (n := 999997) (by simp [rngI])
theorem all_right {ns : List Int} {S : PV} (h : Scr ns S) : ∃ m, mFn 8 m_d46 [S] [] = .ok (.bl true) m := by
  rw [law_eq]
  have fin : ∀ {e : M.Env} {m : Mem}, lawF [some S, none, none, none, none, none, none, none] [] = .nx e m → isR (lawR e m) = true → ∃ m, mFn 8 (mSeq lawF lawR) [S] [] = .ok (.bl true) m := fun {e m} h1 h2 => by
    unfold isR at h2
    split at h2
    · rename_i b m2 q
      subst h2
      refine ⟨m2, ?_⟩
      show (match (match lawF [some S, none, none, none, none, none, none, none] [] with
        | .nx e1 m1 => lawR e1 m1
        | x => x) with
        | .nx _ m' => Res.ok PV.non m'
        | .rt v m' => Res.ok v m'
        | .exc c ws _ m' => Res.exc c ws m'
        | _ => Res.bad) = _
      rw [h1]
      show (match lawR e m with
        | .nx _ m' => Res.ok PV.non m'
        | .rt v m' => Res.ok v m'
        | .exc c ws _ m' => Res.exc c ws m'
        | _ => Res.bad) = _
      rw [q]
    · cases h2
  obtain ⟨r1, k, z, q⟩ := loop h
  exact fin q (rest1 S r1 k z)
theorem say_ok (ns : List Int) (hn : ns.length ≤ 63) (hb : ∀ z ∈ ns, Builtin.Int.intBits z ≤ 1048576) : (∃ m, mFn 8 m_d46 [.lst (ns.map PV.int)] [] = .ok (.bl true) m) ∧ ∃ m, mFn 8 m_d46 [.kst (ns.map PV.int)] [] = .ok (.bl true) m :=
  ⟨all_right (.inl rfl), all_right (.inr rfl)⟩
end G

open PySem PySem.W PyProof.Rows
set_option maxHeartbeats 0 in
theorem PySem.Challenge.cw_fivealike_k04_errors_of_webs_holds : PySem.Challenge.rw_fivealike_k04_errors_of_webs.Holds := by
  w_on; o_law; k_head; (case hw => w_witness2)
  k_fill
  refine M.walk_g (n := 63) (k := 11) (x := "script") rfl (by decide) rfl ⟨rfl, by decide, by decide⟩ (fun w h Y => Y.1) ?F
  intro w mg fa h Y KX GN hmg
  refine' G.end_mk KX GN hmg ?ts (fun ns hn hb => G.say_ok ns hn hb) ?h_nc6 ?h_nc0 ?h_nc1 ?h_nc2 ?h_nc3 ?h_nc4 ?h_nc5 ?h_n0 ?h_l0 ?h_o0 ?h_k0 ?h_n1 ?h_l1 ?h_o1 ?h_k1 ?h_n2 ?h_l2 ?h_o2 ?h_k2 ?h_fn2 ?h_n3 ?h_l3 ?h_o3 ?h_k3 ?h_n4 ?h_l4 ?h_o4 ?h_k4 ?h_n5 ?h_l5 ?h_o5 ?h_k5 ?h_n6 ?h_l6 ?h_o6 ?h_k6 ?h_n7 ?h_l7 ?h_o7 ?h_k7 ?h_n8 ?h_l8 ?h_o8 ?h_k8 ?h_n9 ?h_l9 ?h_o9 ?h_k9 ?h_n10 ?h_l10 ?h_o10 ?h_k10 ?h_n11 ?h_l11 ?h_o11 ?h_k11 ?h_n12 ?h_l12 ?h_o12 ?h_k12 ?h_fn12 ?h_n13 ?h_l13 ?h_o13 ?h_k13 ?h_n14 ?h_l14 ?h_o14 ?h_k14 ?h_n15 ?h_l15 ?h_o15 ?h_k15 ?h_n16 ?h_l16 ?h_o16 ?h_k16 ?h_n17 ?h_l17 ?h_o17 ?h_k17 ?h_n18 ?h_l18 ?h_o18 ?h_k18 ?h_n19 ?h_l19 ?h_o19 ?h_k19 ?h_n20 ?h_l20 ?h_o20 ?h_k20 ?h_fn20 ?h_n21 ?h_l21 ?h_o21 ?h_k21 ?h_n22 ?h_l22 ?h_o22 ?h_k22 ?h_n23 ?h_l23 ?h_o23 ?h_k23 ?h_n24 ?h_l24 ?h_o24 ?h_k24 ?h_n25 ?h_l25 ?h_o25 ?h_k25 ?h_n26 ?h_l26 ?h_o26 ?h_k26 ?h_n27 ?h_l27 ?h_o27 ?h_k27 ?h_n28 ?h_l28 ?h_o28 ?h_k28 ?h_n29 ?h_l29 ?h_o29 ?h_k29 ?h_n30 ?h_l30 ?h_o30 ?h_k30 ?h_n31 ?h_l31 ?h_o31 ?h_k31 ?h_fn31 ?h_n32 ?h_l32 ?h_o32 ?h_k32 ?h_n33 ?h_l33 ?h_o33 ?h_k33 ?h_n34 ?h_l34 ?h_o34 ?h_k34 ?h_fn34 ?h_n35 ?h_l35 ?h_o35 ?h_k35 ?h_fn35 ?h_n36 ?h_l36 ?h_o36 ?h_k36 ?h_n41 ?h_l41 ?h_o41 ?h_k41 ?h_fn41 ?h_n42 ?h_l42 ?h_o42 ?h_k42 ?h_fn42 ?h_cc_law_right ?h_ct_law_right ?h_cclaw ?h_ctlaw ?h_tne ?h_b_abs ?h_b_enumerate ?h_b_int ?h_b_isinstance ?h_b_len ?h_b_list ?h_b_max ?h_b_min ?h_b_range ?h_b_repr ?h_b_sorted ?h_b_tuple ?h_b_type ?h_pg5 ?h_hd5 ?h_po5 ?h_sa5 ?h_ha5 ?h_mi5 ?h_kc5 ?h_hm5 ?h_me5 ?h_na5_colours ?h_na5_ties ?h_na5__near ?h_na5_degrees ?h_hn ?h_htk ?h_isi ?h_tyo ?h_apt ?h_sb6 ?h_ty6 ?h_ke6 ?h_bsp6 ?h_brd6 ?h_bfc6 ?h_sb0 ?h_ty0 ?h_ke0 ?h_ex0 ?h_sb1 ?h_ty1 ?h_ke1 ?h_ex1 ?h_sb2 ?h_ty2 ?h_ke2 ?h_ex2 ?h_sb3 ?h_ty3 ?h_ke3 ?h_cl3 ?h_ve3 ?h_esa3 ?h_ega3 ?h_egg3 ?h_ehd3 ?h_eno3 ?h_eti3 ?h_sb4 ?h_ty4 ?h_ke4 ?h_cl4 ?h_ve4 ?h_esa4 ?h_ega4 ?h_egg4 ?h_ehd4 ?h_eno4 ?h_eti4 ?h_nv0 ?h_vv0 ?h_nv1 ?h_vv1 ?h_nv2 ?h_vv2 ?h_nv3 ?h_vv3 ?h_nv4 ?h_vv4
  (case ts => exact PySem.W.km_tabs_of Y)
  (case h_nc6 => k_is)
  (case h_nc0 => k_is)
  (case h_nc1 => k_is)
  (case h_nc2 => k_is)
  (case h_nc3 => k_is)
  (case h_nc4 => k_is)
  (case h_nc5 => k_is)
  (case h_n0 => k_is)
  (case h_l0 => k_is)
  (case h_o0 => k_is)
  (case h_k0 => k_is)
  (case h_n1 => k_is)
  (case h_l1 => k_is)
  (case h_o1 => k_is)
  (case h_k1 => k_is)
  (case h_n2 => k_is)
  (case h_l2 => k_is)
  (case h_o2 => k_is)
  (case h_k2 => k_is)
  (case h_fn2 => k_is)
  (case h_n3 => k_is)
  (case h_l3 => k_is)
  (case h_o3 => k_is)
  (case h_k3 => k_is)
  (case h_n4 => k_is)
  (case h_l4 => k_is)
  (case h_o4 => k_is)
  (case h_k4 => k_is)
  (case h_n5 => k_is)
  (case h_l5 => k_is)
  (case h_o5 => k_is)
  (case h_k5 => k_is)
  (case h_n6 => k_is)
  (case h_l6 => k_is)
  (case h_o6 => k_is)
  (case h_k6 => k_is)
  (case h_n7 => k_is)
  (case h_l7 => k_is)
  (case h_o7 => k_is)
  (case h_k7 => k_is)
  (case h_n8 => k_is)
  (case h_l8 => k_is)
  (case h_o8 => k_is)
  (case h_k8 => k_is)
  (case h_n9 => k_is)
  (case h_l9 => k_is)
  (case h_o9 => k_is)
  (case h_k9 => k_is)
  (case h_n10 => k_is)
  (case h_l10 => k_is)
  (case h_o10 => k_is)
  (case h_k10 => k_is)
  (case h_n11 => k_is)
  (case h_l11 => k_is)
  (case h_o11 => k_is)
  (case h_k11 => k_is)
  (case h_n12 => k_is)
  (case h_l12 => k_is)
  (case h_o12 => k_is)
  (case h_k12 => k_is)
  (case h_fn12 => k_is)
  (case h_n13 => k_is)
  (case h_l13 => k_is)
  (case h_o13 => k_is)
  (case h_k13 => k_is)
  (case h_n14 => k_is)
  (case h_l14 => k_is)
  (case h_o14 => k_is)
  (case h_k14 => k_is)
  (case h_n15 => k_is)
  (case h_l15 => k_is)
  (case h_o15 => k_is)
  (case h_k15 => k_is)
  (case h_n16 => k_is)
  (case h_l16 => k_is)
  (case h_o16 => k_is)
  (case h_k16 => k_is)
  (case h_n17 => k_is)
  (case h_l17 => k_is)
  (case h_o17 => k_is)
  (case h_k17 => k_is)
  (case h_n18 => k_is)
  (case h_l18 => k_is)
  (case h_o18 => k_is)
  (case h_k18 => k_is)
  (case h_n19 => k_is)
  (case h_l19 => k_is)
  (case h_o19 => k_is)
  (case h_k19 => k_is)
  (case h_n20 => k_is)
  (case h_l20 => k_is)
  (case h_o20 => k_is)
  (case h_k20 => k_is)
  (case h_fn20 => k_is)
  (case h_n21 => k_is)
  (case h_l21 => k_is)
  (case h_o21 => k_is)
  (case h_k21 => k_is)
  (case h_n22 => k_is)
  (case h_l22 => k_is)
  (case h_o22 => k_is)
  (case h_k22 => k_is)
  (case h_n23 => k_is)
  (case h_l23 => k_is)
  (case h_o23 => k_is)
  (case h_k23 => k_is)
  (case h_n24 => k_is)
  (case h_l24 => k_is)
  (case h_o24 => k_is)
  (case h_k24 => k_is)
  (case h_n25 => k_is)
  (case h_l25 => k_is)
  (case h_o25 => k_is)
  (case h_k25 => k_is)
  (case h_n26 => k_is)
  (case h_l26 => k_is)
  (case h_o26 => k_is)
  (case h_k26 => k_is)
  (case h_n27 => k_is)
  (case h_l27 => k_is)
  (case h_o27 => k_is)
  (case h_k27 => k_is)
  (case h_n28 => k_is)
  (case h_l28 => k_is)
  (case h_o28 => k_is)
  (case h_k28 => k_is)
  (case h_n29 => k_is)
  (case h_l29 => k_is)
  (case h_o29 => k_is)
  (case h_k29 => k_is)
  (case h_n30 => k_is)
  (case h_l30 => k_is)
  (case h_o30 => k_is)
  (case h_k30 => k_is)
  (case h_n31 => k_is)
  (case h_l31 => k_is)
  (case h_o31 => k_is)
  (case h_k31 => k_is)
  (case h_fn31 => k_is)
  (case h_n32 => k_is)
  (case h_l32 => k_is)
  (case h_o32 => k_is)
  (case h_k32 => k_is)
  (case h_n33 => k_is)
  (case h_l33 => k_is)
  (case h_o33 => k_is)
  (case h_k33 => k_is)
  (case h_n34 => k_is)
  (case h_l34 => k_is)
  (case h_o34 => k_is)
  (case h_k34 => k_is)
  (case h_fn34 => k_is)
  (case h_n35 => k_is)
  (case h_l35 => k_is)
  (case h_o35 => k_is)
  (case h_k35 => k_is)
  (case h_fn35 => k_is)
  (case h_n36 => k_is)
  (case h_l36 => k_is)
  (case h_o36 => k_is)
  (case h_k36 => k_is)
  (case h_n41 => k_is)
  (case h_l41 => k_is)
  (case h_o41 => k_is)
  (case h_k41 => k_is)
  (case h_fn41 => k_is)
  (case h_n42 => k_is)
  (case h_l42 => k_is)
  (case h_o42 => k_is)
  (case h_k42 => k_is)
  (case h_fn42 => k_is)
  (case h_cc_law_right => kernel_rfl)
  (case h_ct_law_right => first | rfl | kernel_rfl)
  (case h_cclaw => kernel_rfl)
  (case h_ctlaw => first | rfl | kernel_rfl)
  (case h_tne => decide)
  (case h_b_abs => k_is)
  (case h_b_enumerate => k_is)
  (case h_b_int => k_is)
  (case h_b_isinstance => k_is)
  (case h_b_len => k_is)
  (case h_b_list => k_is)
  (case h_b_max => k_is)
  (case h_b_min => k_is)
  (case h_b_range => k_is)
  (case h_b_repr => k_is)
  (case h_b_sorted => k_is)
  (case h_b_tuple => k_is)
  (case h_b_type => k_is)
  (case h_pg5 => k_is)
  (case h_hd5 => k_is)
  (case h_po5 => k_is)
  (case h_sa5 => k_is)
  (case h_ha5 => k_is)
  (case h_mi5 => k_is)
  (case h_kc5 => k_is)
  (case h_hm5 => k_is)
  (case h_me5 => kernel_rfl)
  (case h_na5_colours => k_is)
  (case h_na5_ties => k_is)
  (case h_na5__near => k_is)
  (case h_na5_degrees => k_is)
  (case h_hn => k_is)
  (case h_htk => k_is)
  (case h_isi => kernel_rfl)
  (case h_tyo => kernel_rfl)
  (case h_apt => kernel_rfl)
  (case h_sb6 => k_is)
  (case h_ty6 => k_is)
  (case h_ke6 => k_is)
  (case h_bsp6 => k_is)
  (case h_brd6 => k_is)
  (case h_bfc6 => k_is)
  (case h_sb0 => k_is)
  (case h_ty0 => k_is)
  (case h_ke0 => k_is)
  (case h_ex0 => kernel_rfl)
  (case h_sb1 => k_is)
  (case h_ty1 => k_is)
  (case h_ke1 => k_is)
  (case h_ex1 => kernel_rfl)
  (case h_sb2 => k_is)
  (case h_ty2 => k_is)
  (case h_ke2 => k_is)
  (case h_ex2 => kernel_rfl)
  (case h_sb3 => k_is)
  (case h_ty3 => k_is)
  (case h_ke3 => k_is)
  (case h_cl3 => k_is)
  (case h_ve3 => first | rfl | kernel_rfl)
  (case h_esa3 => k_is)
  (case h_ega3 => k_is)
  (case h_egg3 => k_is)
  (case h_ehd3 => k_is)
  (case h_eno3 => k_is)
  (case h_eti3 => k_is)
  (case h_sb4 => k_is)
  (case h_ty4 => k_is)
  (case h_ke4 => k_is)
  (case h_cl4 => k_is)
  (case h_ve4 => first | rfl | kernel_rfl)
  (case h_esa4 => k_is)
  (case h_ega4 => k_is)
  (case h_egg4 => k_is)
  (case h_ehd4 => k_is)
  (case h_eno4 => k_is)
  (case h_eti4 => k_is)
  (case h_nv0 => k_is)
  (case h_vv0 => exact ⟨_, rfl⟩)
  (case h_nv1 => k_is)
  (case h_vv1 => exact ⟨_, rfl⟩)
  (case h_nv2 => k_is)
  (case h_vv2 => kernel_rfl)
  (case h_nv3 => k_is)
  (case h_vv3 => exact ⟨_, rfl⟩)
  (case h_nv4 => k_is)
  (case h_vv4 => exact ⟨_, rfl⟩)
