// Package word is layer 1: atomic numbers. See shared/doc/01-word.md.
package word

import (
	"math"

	"larch/api"
)

// The kinds of a word.
const (
	I32  = 1 // atomic.Int32
	I64  = 2 // atomic.Int64
	U32  = 3 // atomic.Uint32
	U64  = 4 // atomic.Uint64
	Bool = 5 // atomic.Bool
	Uptr = 6 // atomic.Uintptr
)

// Three further things that a word can be made of by compare-and-swap.
const (
	Xor = 8
	Max = 9
	Min = 10
)

// The limits.
const (
	MaxActs = 10000  // accesses of one row
	MaxFree = 100000 // numbers of all threads together
)

// Act is an access: its kind (api.Load .. api.Or), and what it is given: A; of api.Cas: A the old, B the new.
type Act struct {
	Kind int
	A, B uint64
}

// Out is what an access answers.
type Out struct {
	Val uint64
	Ok  bool
}

// Narrow: the number that a word of the kind holds, when it is given these bits.
func Narrow(kind int, bits uint64) (uint64, api.Errno) {
	if !isKind(kind) {
		return 0, api.ErrKind
	}
	return narrow(kind, bits), api.OK
}

// Of: the bits of a plain int.
func Of(kind, n int) (uint64, api.Errno) {
	return Narrow(kind, uint64(n))
}

// Plain: the plain int of the bits.
func Plain(kind int, bits uint64) (int, api.Errno) {
	if !isKind(kind) {
		return 0, api.ErrKind
	}
	held := narrow(kind, bits)
	switch kind {
	case I32:
		return int(int32(held)), api.OK
	case I64:
		return int(held), api.OK
	}
	if held > math.MaxInt {
		return 0, api.ErrArg
	}
	return int(held), api.OK
}

// Ends: the bits of the least and of the greatest number.
func Ends(kind int) (uint64, uint64, api.Errno) {
	if !isKind(kind) {
		return 0, 0, api.ErrKind
	}
	least := leastOf(kind)
	return least, narrow(kind, least-1), api.OK
}

// Less: is the number of a below that of b?
func Less(kind int, a, b uint64) (bool, api.Errno) {
	if !isKind(kind) {
		return false, api.ErrKind
	}
	return less(kind, narrow(kind, a), narrow(kind, b)), api.OK
}

func isKind(kind int) bool {
	return kind >= I32 && kind <= Uptr
}

func narrow(kind int, bits uint64) uint64 {
	switch kind {
	case I32, U32:
		return uint64(uint32(bits))
	case Bool:
		return min(bits, 1)
	}
	return bits
}

func leastOf(kind int) uint64 {
	switch kind {
	case I32:
		return 1 << 31
	case I64:
		return 1 << 63
	}
	return 0
}

// less takes held bits. The least number of a signed kind is its sign bit alone: with that bit turned over, the order of the numbers is the order of the bits.
func less(kind int, a, b uint64) bool {
	least := leastOf(kind)
	return a^least < b^least
}
