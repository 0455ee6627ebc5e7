package shell_test

import (
	"math/rand"
	"strings"
	"testing"

	"larch/api"
	"larch/model"
	"larch/shell"
)

func TestPrintOp(t *testing.T) { // P28.1
	for _, c := range []struct {
		o    api.Op
		want string
	}{
		{api.Op{Kind: api.Get, Key: 5, Val: 6, Hi: 7}, "get 5"}, {api.Op{Kind: api.Put, Key: -1, Val: 0, Hi: 7}, "put -1 0"}, {api.Op{Kind: api.PutIfAbsent, Key: 0, Val: -9, Hi: 7}, "ifabsent 0 -9"},
		{api.Op{Kind: api.Delete, Key: least, Val: 6, Hi: 7}, "delete -9223372036854775808"}, {api.Op{Kind: api.Successor, Key: most, Val: 6, Hi: 7}, "after 9223372036854775807"},
		{api.Op{Kind: api.Predecessor, Key: 12, Val: 6, Hi: 7}, "before 12"}, {api.Op{Kind: api.Min, Key: 5, Val: 6, Hi: 7}, "min"}, {api.Op{Kind: api.Max, Key: 5, Val: 6, Hi: 7}, "max"},
		{api.Op{Kind: api.Range, Key: 5, Val: 6, Hi: 7}, "range 5 7"}, {api.Op{Kind: api.Range, Key: most, Hi: least}, "range 9223372036854775807 -9223372036854775808"},
	} {
		if got, e := shell.PrintOp(c.o); got != c.want || e != api.OK {
			t.Errorf("PrintOp(%v) = %q, %d, want %q", c.o, got, e, c.want)
		}
	}
	for _, kind := range []int{0, -1, 10, 11, 100, least, most} {
		if got, e := shell.PrintOp(api.Op{Kind: kind, Key: 1, Val: 2, Hi: 3}); got != "" || e != api.ErrKind {
			t.Errorf("PrintOp of kind %d = %q, %d", kind, got, e)
		}
	}
}

func TestParseOp(t *testing.T) { // P28.1
	for line, want := range map[string]api.Op{
		"get 5": {Kind: api.Get, Key: 5}, "put -1 0": {Kind: api.Put, Key: -1}, "ifabsent 0 -9": {Kind: api.PutIfAbsent, Val: -9}, "delete 7": {Kind: api.Delete, Key: 7},
		"after 9223372036854775807": {Kind: api.Successor, Key: most}, "before -9223372036854775808": {Kind: api.Predecessor, Key: least}, "min": {Kind: api.Min}, "max": {Kind: api.Max},
		"range 5 7": {Kind: api.Range, Key: 5, Hi: 7}, "range 9223372036854775807 -9223372036854775808": {Kind: api.Range, Key: most, Hi: least},
		" get 5": {Kind: api.Get, Key: 5}, "\t\rget\r\t 5 \r": {Kind: api.Get, Key: 5}, "  put\t1\r2\t": {Kind: api.Put, Key: 1, Val: 2}, " \t\rmin\r": {Kind: api.Min}, "max ": {Kind: api.Max},
		"get 0": {Kind: api.Get}, "get 10": {Kind: api.Get, Key: 10}, "get -10": {Kind: api.Get, Key: -10}, "get -1000000000000000000": {Kind: api.Get, Key: -1000000000000000000},
	} {
		if got, e := shell.ParseOp(line); got != want || e != api.OK {
			t.Errorf("ParseOp(%q) = %v, %d, want %v", line, got, e, want)
		}
	}
}

func TestOpsThatAreRefused(t *testing.T) { // P28.1
	for _, line := range []string{
		"", " ", "\t\r ", "#", "# get 1", "#get 1", "get #1", "get 1 #", "get 1 # two", "min #", "#min",
		"\n", "get 1\n", "\nget 1", "get\n1", "get 1 \n", "get \n1", "min\n", "min \n", "\nmin", "\n min", "get 1\nget 2", "get 1\n\n", "max\r\n",
		"get", "get 1 2", "put 1", "put", "put 1 2 3", "ifabsent 1", "ifabsent 1 2 3", "delete", "delete 1 2", "after", "after 1 2", "before", "before 1 2", "min 1", "max 0", "range 1", "range 1 2 3", "range",
		"start 1 2", "thread", "pick 1", "pick 1 2", "gett 1", "ge 1", "Get 1", "GET 1", "successor 1", "kind 1", "1", "1 get", "getget 1", "get1", "get,1", "get\v1", "get\f1", "get\u00a01", "get\x001", "get 1\x00", "\x00", "min\x00",
		"get 01", "get 00", "get -0", "get -01", "get +1", "get +0", "get -", "get +", "get --1", "get 1-", "get 1.0", "get 1e3", "get 0x1", "get 1_000", "get ١", "get a", "get -a", "get \"1\"", "get 1,", "get ½",
		"get 9223372036854775808", "get -9223372036854775809", "get 18446744073709551616", "get 18446744073709551615", "get 92233720368547758070", "get -92233720368547758080",
		"put 1 01", "put 01 1", "range 1 9223372036854775808", "range 9223372036854775808 1", "get " + strings.Repeat("1", 5000), "get " + strings.Repeat("0", 5000), "get 1 " + strings.Repeat("1 ", 5000),
		"get \xff", "\xff", "get\xff 1", "min \xff", "get 1\u2028", "\ufeffget 1",
	} {
		if got, e := shell.ParseOp(line); got != (api.Op{}) || e != api.ErrText {
			t.Errorf("ParseOp(%.60q) = %v, %d", line, got, e)
		}
	}
}

func TestPrintAndParseOpByChance(t *testing.T) { // P28.1
	r := rand.New(rand.NewSource(1))
	for range 20000 {
		o := someOp(r)
		line, e := shell.PrintOp(o)
		if e != api.OK || line != naiveOpLine(o) {
			t.Fatalf("PrintOp(%v) = %q, %d", o, line, e)
		}
		if got, e := shell.ParseOp(line); got != model.Plain(o) || e != api.OK {
			t.Fatalf("ParseOp(%q) = %v, %d, want %v", line, got, e, model.Plain(o))
		}
	}
}

// spoiled: a piece of it comes, goes or is doubled, anywhere.
func spoiled(r *rand.Rand, text string) string {
	pieces := []string{" ", "\t", "\r", "\n", "\n\n", "#", "-", "0", "1", "9", "+", "get", "put ", "thread\n", "pick 0 2\n", "start 1 2\n", "min", "\x00", "\xff", "\v", "# no\n", "1000000", "9223372036854775807"}
	for range 1 + r.Intn(3) {
		at := r.Intn(len(text) + 1)
		switch r.Intn(3) {
		case 0:
			text = text[:at] + pieces[r.Intn(len(pieces))] + text[at:]
		case 1:
			text = text[:at] + text[min(len(text), at+1+r.Intn(4)):]
		case 2:
			text = text[:at] + text[r.Intn(at+1):]
		}
	}
	return text
}

func TestParseOpOfSpoiledLines(t *testing.T) { // P28.1
	r := rand.New(rand.NewSource(2))
	taken := 0
	for range 20000 {
		line := spoiled(r, naiveOpLine(someOp(r)))
		want, is := naiveOp(word.FindAllString(line, -1))
		is = is && !strings.Contains(line, "\n")
		if is {
			taken++
		} else {
			want = api.Op{}
		}
		if got, e := shell.ParseOp(line); got != want || (e == api.OK) != is || !is && e != api.ErrText {
			t.Fatalf("ParseOp(%q) = %v, %d, want %v", line, got, e, want)
		}
	}
	if taken < 2000 {
		t.Errorf("only %d lines were of the language", taken)
	}
}
