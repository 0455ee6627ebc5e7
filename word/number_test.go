package word_test

import (
	"math"
	"math/big"
	"testing"

	"larch/api"
	"larch/word"
)

// allKinds: every kind of a word, with how many bits it has and whether its numbers are signed.
var allKinds = []struct {
	kind, bits int
	signed     bool
}{
	{word.I32, 32, true}, {word.I64, 64, true}, {word.U32, 32, false},
	{word.U64, 64, false}, {word.Bool, 1, false}, {word.Uptr, 64, false},
}

var noKinds = []int{math.MinInt, -1, 0, 7, 8, math.MaxInt}

// edgeBits: the ends of each kind of word, what stands beside them, and what is dropped.
var edgeBits = []uint64{
	0, 1, 2, 5, 7, 1<<31 - 1, 1 << 31, 1<<31 + 1, 1<<32 - 1, 1 << 32, 1<<32 + 5, 1<<33 - 1,
	1<<63 - 1, 1 << 63, 1<<63 + 1, 1<<64 - 2, 1<<64 - 1, 0xdeadbeef_cafebabe,
}

// held: what a word holds, worked out apart from the package.
func held(kind int, bits uint64) uint64 {
	if kind == word.Bool {
		if bits == 0 {
			return 0
		}
		return 1
	}
	for _, k := range allKinds {
		if k.kind == kind {
			return bits << (64 - k.bits) >> (64 - k.bits)
		}
	}
	panic("no kind")
}

// numberOf: the number of what a word holds of the bits.
func numberOf(kind int, bits uint64) *big.Int {
	n := new(big.Int).SetUint64(held(kind, bits))
	for _, k := range allKinds {
		half := new(big.Int).Lsh(big.NewInt(1), uint(k.bits-1))
		if k.kind == kind && k.signed && n.Cmp(half) >= 0 {
			n.Sub(n, half).Sub(n, half)
		}
	}
	return n
}

func TestNumbersByExamples(t *testing.T) { // P1.1
	narrows := []struct {
		kind       int
		bits, want uint64
		e          api.Errno
	}{
		{word.I32, 1<<32 + 5, 5, api.OK}, {word.Bool, 7, 1, api.OK}, {word.Bool, 1 << 63, 1, api.OK}, {word.Bool, 0, 0, api.OK},
		{word.U64, 1<<64 - 1, 1<<64 - 1, api.OK}, {7, 0, 0, api.ErrKind}, {0, 0, 0, api.ErrKind}, {7, 9, 0, api.ErrKind},
	}
	for _, c := range narrows {
		if got, e := word.Narrow(c.kind, c.bits); got != c.want || e != c.e {
			t.Errorf("Narrow(%d, %d) = %d, %d", c.kind, c.bits, got, e)
		}
	}
	ofs := []struct {
		kind, n int
		want    uint64
	}{
		{word.I32, -1, 4294967295}, {word.U64, -1, 1<<64 - 1}, {word.Bool, -3, 1}, {word.Bool, 0, 0},
		{word.I64, math.MinInt, 1 << 63}, {word.U32, math.MinInt, 0}, {word.Uptr, math.MaxInt, 1<<63 - 1},
	}
	for _, c := range ofs {
		if got, e := word.Of(c.kind, c.n); got != c.want || e != api.OK {
			t.Errorf("Of(%d, %d) = %d, %d", c.kind, c.n, got, e)
		}
	}
	plains := []struct {
		kind int
		bits uint64
		want int
		e    api.Errno
	}{
		{word.I32, 4294967295, -1, api.OK}, {word.U32, 4294967295, 4294967295, api.OK}, {word.U64, 1 << 63, 0, api.ErrArg},
		{word.I64, 1 << 63, math.MinInt, api.OK}, {word.Uptr, 1 << 63, 0, api.ErrArg}, {word.Uptr, 1<<63 - 1, math.MaxInt, api.OK},
		{word.I32, 1 << 31, math.MinInt32, api.OK}, {word.I32, 1<<63 + 3, 3, api.OK}, {word.U32, 1<<63 + 3, 3, api.OK}, {word.Bool, 1 << 63, 1, api.OK},
	}
	for _, c := range plains {
		if got, e := word.Plain(c.kind, c.bits); got != c.want || e != c.e {
			t.Errorf("Plain(%d, %d) = %d, %d", c.kind, c.bits, got, e)
		}
	}
}

func TestEndsAndLessByExamples(t *testing.T) { // P1.1
	ends := []struct {
		kind          int
		least, utmost uint64
	}{
		{word.I32, 2147483648, 2147483647}, {word.I64, 1 << 63, 1<<63 - 1}, {word.U32, 0, 4294967295},
		{word.U64, 0, 1<<64 - 1}, {word.Bool, 0, 1}, {word.Uptr, 0, 1<<64 - 1},
	}
	for _, c := range ends {
		if least, utmost, e := word.Ends(c.kind); least != c.least || utmost != c.utmost || e != api.OK {
			t.Errorf("Ends(%d) = %d, %d, %d", c.kind, least, utmost, e)
		}
	}
	if below, e := word.Less(word.I32, 4294967295, 0); !below || e != api.OK {
		t.Errorf("Less of -1 and 0 = %v, %d", below, e)
	}
	if below, e := word.Less(word.U32, 4294967295, 0); below || e != api.OK {
		t.Errorf("Less of 2^32 - 1 and 0 = %v, %d", below, e)
	}
}

func TestNumbersAtAllEdges(t *testing.T) { // P1.1
	for _, k := range allKinds {
		for _, a := range edgeBits {
			if got, e := word.Narrow(k.kind, a); got != held(k.kind, a) || e != api.OK {
				t.Errorf("Narrow(%d, %d) = %d, %d", k.kind, a, got, e)
			}
			if got, e := word.Of(k.kind, int(a)); got != held(k.kind, a) || e != api.OK {
				t.Errorf("Of(%d, %d) = %d, %d", k.kind, int(a), got, e)
			}
			want, wantErr := 0, api.ErrArg
			if n := numberOf(k.kind, a); n.IsInt64() {
				want, wantErr = int(n.Int64()), api.OK
			}
			if got, e := word.Plain(k.kind, a); got != want || e != wantErr {
				t.Errorf("Plain(%d, %d) = %d, %d, want %d, %d", k.kind, a, got, e, want, wantErr)
			}
			for _, b := range edgeBits {
				want := numberOf(k.kind, a).Cmp(numberOf(k.kind, b)) < 0
				if got, e := word.Less(k.kind, a, b); got != want || e != api.OK {
					t.Errorf("Less(%d, %d, %d) = %v, %d", k.kind, a, b, got, e)
				}
			}
		}
	}
}

func TestNoSuchKind(t *testing.T) { // P1.1, P1.2, P1.3 to P1.6: it comes ahead of every other error
	tooManyActs := make([]word.Act, word.MaxActs+1)
	tooManyLists := make([][]uint64, api.MaxThreads+1)
	for _, kind := range noKinds {
		n, e1 := word.Narrow(kind, 1)
		o, e2 := word.Of(kind, 1)
		p, e3 := word.Plain(kind, 1<<63)
		least, utmost, e4 := word.Ends(kind)
		below, e5 := word.Less(kind, 0, 1)
		outs, last, e6 := word.Do(kind, 1, tooManyActs)
		steps, e7 := word.Steps(kind, 1, tooManyActs)
		sum, e8 := word.Gather(kind, 99, 1, tooManyLists)
		swaps, e9 := word.Swaps(kind, 1, tooManyLists)
		tickets, rose, e10 := word.Tickets(kind, 1, make([]int, api.MaxThreads+1))
		wins, is, e11 := word.Race(kind, 1, make([]uint64, api.MaxThreads+1))
		for i, e := range []api.Errno{e1, e2, e3, e4, e5, e6, e7, e8, e9, e10, e11} {
			if e != api.ErrKind {
				t.Errorf("kind %d, call %d: error %d", kind, i, e)
			}
		}
		if n+o+least+utmost+last+sum != 0 || p != 0 || below || len(outs)+len(steps)+len(swaps)+len(tickets) != 0 || rose || wins != 0 || is {
			t.Errorf("kind %d: something stands beside an error", kind)
		}
	}
}
