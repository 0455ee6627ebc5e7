package weigh

import (
	"math/bits"

	"larch/api"
	"larch/table"
)

// Deep: the edges from the entry to the lowest leaf.
func Deep(t []api.Node) (int, api.Errno) {
	if e := check(t); e != api.OK {
		return 0, e
	}
	return table.Height(t)
}

// Bound: how many there may be, of so many keys.
func Bound(n int) (int, api.Errno) {
	if n < 0 {
		return 0, api.ErrArg
	}
	return 2*bits.Len64(uint64(n)+1) + 4, api.OK // as an int the greatest one and 1 would wrap round
}

// Fits: are there no more?
func Fits(t []api.Node) (bool, api.Errno) {
	keys, e := keysOf(t)
	if e != api.OK {
		return false, e
	}
	deep, e := Deep(t)
	if e != api.OK {
		return false, e
	}
	leaves := (len(keys) + 1) / 2 // a tree has one more than inner nodes
	bound, e := Bound(leaves)
	return deep <= bound, e
}
