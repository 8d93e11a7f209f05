import Derived.WalkKit
namespace Go.Proofs.YtnfakamfmkhlbaaGreatDoor.P

def oneI (x : Int) : Int := IntKind.u64.wrap (2 ^ x.toNat)
def lftI (x : Int) : Int := bits .andNot .u64 (x / 2) 9259542123273814144
def rgtI (x : Int) : Int := bits .andNot .u64 (IntKind.u64.wrap (x * 2)) 72340172838076673
def upI (x r : Int) : Int := if r < 0 then x / 2 ^ (-8 * r).toNat else IntKind.u64.wrap (x * 2 ^ (8 * r).toNat)
def rv1 (x : Int) : Int := bits .or .u64 (bits .and .u64 (x / 2) 6148914691236517205) (IntKind.u64.wrap (bits .and .u64 x 6148914691236517205 * 2))
def rv2 (x : Int) : Int := bits .or .u64 (bits .and .u64 (x / 4) 3689348814741910323) (IntKind.u64.wrap (bits .and .u64 x 3689348814741910323 * 4))
def rv4 (x : Int) : Int := bits .or .u64 (bits .and .u64 (x / 16) 1085102592571150095) (IntKind.u64.wrap (bits .and .u64 x 1085102592571150095 * 16))
def rv8 (x : Int) : Int := bits .or .u64 (bits .and .u64 (x / 256) 71777214294589695) (IntKind.u64.wrap (bits .and .u64 x 71777214294589695 * 256))
def rv16 (x : Int) : Int := bits .or .u64 (bits .and .u64 (x / 65536) 281470681808895) (IntKind.u64.wrap (bits .and .u64 x 281470681808895 * 65536))
def rv32 (x : Int) : Int := bits .or .u64 (x / 4294967296) (IntKind.u64.wrap (x * 4294967296))
def revI (x : Int) : Int := rv32 (rv16 (rv8 (rv4 (rv2 (rv1 x)))))
def orI (a b : Int) : Int := bits .or .u64 a b
def menI (l x t : Int) : Int := bits .and .u64 (bits .andNot .u64 l (oneI x)) t
def alongI (l x t : Int) : Int := bits .and .u64 (bits .xor .u64 (IntKind.u64.wrap (menI l x t - oneI x)) (revI (IntKind.u64.wrap (revI (menI l x t) - revI (oneI x))))) (bits .andNot .u64 l (oneI x))
def knightI (x : Int) : Int := orI (orI (orI (upI (orI (lftI x) (rgtI x)) 2) (upI (orI (lftI x) (rgtI x)) (-2))) (upI (orI (lftI (lftI x)) (rgtI (rgtI x))) 1)) (upI (orI (lftI (lftI x)) (rgtI (rgtI x))) (-1))
def rowI (x : Int) : Int := orI (orI (lftI x) x) (rgtI x)
def kingI (x : Int) : Int := bits .andNot .u64 (orI (orI (upI (rowI x) 1) (rowI x)) (upI (rowI x) (-1))) x
def fileI (x : Int) : Int := IntKind.u64.wrap (72340172838076673 * 2 ^ (x % 8).toNat)
def rankI (x : Int) : Int := upI 255 (x / 8)
def risI (x : Int) : Int := upI 9241421688590303745 (x / 8 - x % 8)
def falI (x : Int) : Int := upI 72624976668147840 (x / 8 + x % 8 - 7)
def straightI (x t : Int) : Int := orI (alongI (fileI x) x t) (alongI (rankI x) x t)
def slantI (x t : Int) : Int := orI (alongI (risI x) x t) (alongI (falI x) x t)
def reachI (k x t : Int) : Int :=
  if k = 1 then upI (orI (lftI (oneI x)) (rgtI (oneI x))) 1
  else if k = 2 then upI (orI (lftI (oneI x)) (rgtI (oneI x))) (-1)
  else if k = 3 then knightI (oneI x)
  else if k = 4 then slantI x t
  else if k = 5 then straightI x t
  else if k = 6 then orI (slantI x t) (straightI x t)
  else if k = 7 then kingI (oneI x)
  else 0

end Go.Proofs.YtnfakamfmkhlbaaGreatDoor.P
