/-
  The plain mathematics of digests: words of 32 bits, the words of a block, its 64 steps, the state behind a text, what stands behind a text, the digest, codes and trees.
-/
namespace Go.Proofs.YtjpgepodkeccmaaDoor
namespace Sm
def rK : List (BitVec 32) := [1116352408#32, 1899447441#32, 3049323471#32, 3921009573#32, 961987163#32, 1508970993#32, 2453635748#32, 2870763221#32, 3624381080#32, 310598401#32, 607225278#32, 1426881987#32, 1925078388#32, 2162078206#32, 2614888103#32, 3248222580#32, 3835390401#32, 4022224774#32, 264347078#32, 604807628#32, 770255983#32, 1249150122#32, 1555081692#32, 1996064986#32, 2554220882#32, 2821834349#32, 2952996808#32, 3210313671#32, 3336571891#32, 3584528711#32, 113926993#32, 338241895#32, 666307205#32, 773529912#32, 1294757372#32, 1396182291#32, 1695183700#32, 1986661051#32, 2177026350#32, 2456956037#32, 2730485921#32, 2820302411#32, 3259730800#32, 3345764771#32, 3516065817#32, 3600352804#32, 4094571909#32, 275423344#32, 430227734#32, 506948616#32, 659060556#32, 883997877#32, 958139571#32, 1322822218#32, 1537002063#32, 1747873779#32, 1955562222#32, 2024104815#32, 2227730452#32, 2361852424#32, 2428436474#32, 2756734187#32, 3204031479#32, 3329325298#32]
def rH : List (BitVec 32) := [1779033703#32, 3144134277#32, 1013904242#32, 2773480762#32, 1359893119#32, 2600822924#32, 528734635#32, 1541459225#32]
def sA (x : BitVec 32) : BitVec 32 := x.rotateRight 2 ^^^ x.rotateRight 13 ^^^ x.rotateRight 22
def sE (x : BitVec 32) : BitVec 32 := x.rotateRight 6 ^^^ x.rotateRight 11 ^^^ x.rotateRight 25
def s0 (x : BitVec 32) : BitVec 32 := x.rotateRight 7 ^^^ x.rotateRight 18 ^^^ x >>> 3
def s1 (x : BitVec 32) : BitVec 32 := x.rotateRight 17 ^^^ x.rotateRight 19 ^^^ x >>> 10
def wd (b : List Int) (t : Nat) : BitVec 32 := BitVec.ofInt 32 (b.getD (4 * t) 0 * 16777216 + b.getD (4 * t + 1) 0 * 65536 + b.getD (4 * t + 2) 0 * 256 + b.getD (4 * t + 3) 0)
def nextW (l : List (BitVec 32)) (t : Nat) : BitVec 32 := s1 (l.getD (t - 2) 0) + l.getD (t - 7) 0 + s0 (l.getD (t - 15) 0) + l.getD (t - 16) 0
def w16 (b : List Int) (k : Nat) : List (BitVec 32) := (List.range k).map (wd b)
def wTo (b : List Int) : Nat → List (BitVec 32)
  | 0 => w16 b 16
  | k + 1 => wTo b k ++ [nextW (wTo b k) (16 + k)]
def sched (b : List Int) : List (BitVec 32) := wTo b 48
structure St where
  a : BitVec 32
  b : BitVec 32
  c : BitVec 32
  d : BitVec 32
  e : BitVec 32
  f : BitVec 32
  g : BitVec 32
  h : BitVec 32
def St.l (s : St) : List (BitVec 32) := [s.a, s.b, s.c, s.d, s.e, s.f, s.g, s.h]
def ch (e f g : BitVec 32) : BitVec 32 := e &&& f ^^^ ~~~e &&& g
def mj (a b c : BitVec 32) : BitVec 32 := a &&& b ^^^ a &&& c ^^^ b &&& c
def t1 (s : St) (k w : BitVec 32) : BitVec 32 := s.h + sE s.e + ch s.e s.f s.g + k + w
def t2 (s : St) : BitVec 32 := sA s.a + mj s.a s.b s.c
def step (s : St) (k w : BitVec 32) : St := ⟨t1 s k w + t2 s, s.a, s.b, s.c, s.d + t1 s k w, s.e, s.f, s.g⟩
def stepsTo (s : St) (ws : List (BitVec 32)) : Nat → St
  | 0 => s
  | t + 1 => step (stepsTo s ws t) (rK.getD t 0) (ws.getD t 0)
def plus (s r : St) : St := ⟨s.a + r.a, s.b + r.b, s.c + r.c, s.d + r.d, s.e + r.e, s.f + r.f, s.g + r.g, s.h + r.h⟩
def mix (s : St) (b : List Int) : St := plus s (stepsTo s (sched b) 64)
def h0 : St := ⟨rH.getD 0 0, rH.getD 1 0, rH.getD 2 0, rH.getD 3 0, rH.getD 4 0, rH.getD 5 0, rH.getD 6 0, rH.getD 7 0⟩
def stTo (l : List Int) : Nat → St
  | 0 => h0
  | k + 1 => mix (stTo l k) ((l.drop (64 * k)).take 64)
def st (l : List Int) : St := stTo l (l.length / 64)
def byteOf (x : BitVec 32) (j : Nat) : Int := ((x.toNat / 2 ^ (24 - 8 * j) % 256 : Nat) : Int)
def bytesOf (ws : List (BitVec 32)) : List Int := ws.flatMap fun x => [byteOf x 0, byteOf x 1, byteOf x 2, byteOf x 3]
def noughts (n : Nat) : Nat := (119 - n % 64) % 64
def bits8 (n : Nat) : List Int := (List.range 8).map fun i => ((8 * n / 2 ^ (56 - 8 * i) % 256 : Nat) : Int)
def tail (n : Nat) : List Int := 128 :: (List.replicate (noughts n) 0 ++ bits8 n)
def padded (l : List Int) : List Int := l ++ tail l.length
def dig (l : List Int) : List Int := bytesOf (st (padded l)).l
end Sm
end Go.Proofs.YtjpgepodkeccmaaDoor
