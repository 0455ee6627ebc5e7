package table_test

import (
	"math"
	"math/rand"
	"regexp"
	"slices"
	"strconv"
	"strings"
	"testing"

	"larch/api"
	"larch/table"
)

var head = regexp.MustCompile(`^\((inf|[-+]?[0-9]+):([-+]?[0-9]+)(?:=([-+]?[0-9]+))?`)

// parsed: a tree at the beginning of the text, read with too little care, and what comes behind it.
func parsed(s string) (*tree, string, bool) {
	m := head.FindStringSubmatch(s)
	if m == nil {
		return nil, s, false
	}
	x := &tree{}
	if m[1] == "inf" {
		x.Inf = 1
	}
	x.Key, _ = strconv.Atoi(m[1])
	x.Weight, _ = strconv.Atoi(m[2])
	x.Val, _ = strconv.Atoi(m[3])
	s = s[len(m[0]):]
	if inside, is := strings.CutPrefix(s, " "); is {
		var ok bool
		if x.left, s, ok = parsed(inside); !ok || !strings.HasPrefix(s, " ") {
			return nil, s, false
		}
		if x.right, s, ok = parsed(s[1:]); !ok {
			return nil, s, false
		}
	}
	return x, strings.TrimPrefix(s, ")"), strings.HasPrefix(s, ")")
}

// wantRead: the text is that of a tree in form just if that tree's text is it.
func wantRead(t *testing.T, s string) bool {
	t.Helper()
	x, rest, ok := parsed(s)
	ok = ok && rest == "" && isInForm(x.table()) && x.text() == s
	got, err := table.Read(s)
	if ok && (err != api.OK || !slices.Equal(got, x.table())) || !ok && (err != api.ErrText || len(got) != 0) {
		t.Fatalf("Read(%q) = %v, %d; is it a tree's text: %v", s, got, err, ok)
	}
	return ok
}

func TestTextByExamples(t *testing.T) { // P16.5
	for want, tab := range map[string][]api.Node{
		"(inf:1 (inf:1) (inf:1))":                  table.Empty(),
		"(inf:1 (inf:1 (5:1=50) (inf:1)) (inf:1))": exampleOdd(),
		"(-5:0=7)": nodes(l(-5, 0, 7)),
		"(-9223372036854775808:1000000=9223372036854775807)":         nodes(l(math.MinInt, api.MaxWeight, math.MaxInt)),
		"(9223372036854775807:0 (0:0=-9223372036854775808) (0:0=0))": nodes(i(math.MaxInt, 0, 2, 1), l(0, 0, 0), l(0, 0, math.MinInt)),
	} {
		if got, err := table.Text(tab); err != api.OK || got != want {
			t.Errorf("Text(%v) = %q, %d, want %q", tab, got, err, want)
		}
		norm, _ := table.Norm(tab)
		if got, err := table.Read(want); err != api.OK || !slices.Equal(got, norm) {
			t.Errorf("Read(%q) = %v, %d, want %v", want, got, err, norm)
		}
		wantRead(t, want)
	}
	for _, s := range []string{"", "(5:1)", "(05:1=0)", "(5:1=0) ", "(5:1=-0)", "(inf:1=0)", "(5:1000001=0)", "(9223372036854775808:1=0)", "(5:1 (4:1=0))"} {
		if got, err := table.Read(s); err != api.ErrText || len(got) != 0 {
			t.Errorf("example 7: Read(%q) = %v, %d", s, got, err)
		}
	}
}

func TestTextByChance(t *testing.T) { // P16.5
	r := rand.New(rand.NewSource(9))
	trees := map[string][]api.Node{} // by their texts
	for range 3000 {
		x := someTree(r, 1+r.Intn(8))
		odd, _ := shuffled(r, x.table())
		s, err := table.Text(odd)
		if err != api.OK || s != x.text() {
			t.Fatalf("Text(%v) = %q, %d, want %q", odd, s, err, x.text())
		}
		if got, err := table.Read(s); err != api.OK || !slices.Equal(got, x.table()) {
			t.Fatalf("Read(%q) = %v, %d", s, got, err)
		}
		if other, is := trees[s]; is && !slices.Equal(other, x.table()) {
			t.Fatalf("two trees have the text %q", s)
		}
		trees[s] = x.table()
	}
}

// TestReadOfNearlyRight: what is wrong in one place.
func TestReadOfNearlyRight(t *testing.T) { // P16.5
	for _, s := range []string{
		"(", ")", "()", " ", "(5", "(5:", "(5:1", "(5:1=", "(5:1=0", "5:1=0", "5:1=0)", "(5:1=0))", "((5:1=0)", "((5:1=0))", " (5:1=0)", "(5:1=0)\n", "(5:1=0)\x00", "( 5:1=0)", "(5 :1=0)", "(5: 1=0)", "(5:1 =0)", "(5:1= 0)", "(5:1=0 )",
		"(:1=0)", "(5:=0)", "(5:1=)", "(5=0)", "(5:1:1=0)", "(5:1=0=0)", "(5;1=0)", "(5:1-0)", "[5:1=0]",
		"(+5:1=0)", "(5:+1=0)", "(5:1=+0)", "(-0:1=0)", "(5:-0=0)", "(5:-1=0)", "(--5:1=0)", "(5-:1=0)", "(-:1=0)", "(5:1=-)", "(5-5:1=0)", "(00:1=0)", "(-05:1=0)", "(5:01=0)", "(5:00=0)", "(5:1=00)", "(5:1=01)", "(5_0:1=0)", "(0x5:1=0)", "(5.0:1=0)", "(5e1:1=0)", "(\u0665:1=0)", "(５:1=0)",
		"(9223372036854775808:1=0)", "(-9223372036854775809:1=0)", "(5:1=9223372036854775808)", "(5:1=-9223372036854775809)", "(99999999999999999999999:1=0)", "(5:9223372036854775808=0)", "(5:18446744073709551617=0)", "(5:1000001=0)",
		"(Inf:1)", "(INF:1)", "(infinity:1)", "(in:1)", "(inff:1)", "(-inf:1)", "(inf5:1)", "(5inf:1)", "(inf:1=0)", "(inf:inf)", "(5:inf=0)", "(5:1=inf)", "(inf)", "(inf:)", "(inf:1 )",
		"(5:1)", "(5:1 )", "(5:1  )", "(5:1 (4:1=0))", "(5:1 (4:1=0) )", "(5:1 (4:1=0)(6:1=0))", "(5:1(4:1=0) (6:1=0))", "(5:1  (4:1=0) (6:1=0))", "(5:1 (4:1=0)  (6:1=0))", "(5:1 (4:1=0) (6:1=0) )", "(5:1 (4:1=0) (6:1=0)", "(5:1 (4:1=0) (6:1=0)))", "(5:1 (4:1=0) (6:1=0) (7:1=0))", "(5:1=0 (4:1=0) (6:1=0))", "(5:1 (4:1=0) (6:1=0)=0)", "(5:1\t(4:1=0)\t(6:1=0))", "(5:1 (4:1) (6:1=0))", "(5:1 (4:1=0) (6:1))", "(5:1 () (6:1=0))", "(inf:1=0 (inf:1) (inf:1))", "(inf:1 (inf:1) (inf:1=0))", "(inf:1 (inf:1))",
		"(5:1=0)(5:1=0)", "(5:1=0) (5:1=0)", "x(5:1=0)", "(5:1=0)x",
	} {
		if wantRead(t, s) {
			t.Errorf("%q is a tree's text", s)
		}
	}
	for _, s := range []string{"(0:0=0)", "(-1:0=-1)", "(10:10=10)", "(inf:0)", "(inf:1000000)", "(5:1000000=0)", "(9223372036854775807:1=-9223372036854775808)", "(-9223372036854775808:1=9223372036854775807)", "(0:0 (0:0=0) (inf:0 (inf:0) (0:0=0)))"} {
		if !wantRead(t, s) {
			t.Errorf("%q is no tree's text", s)
		}
	}
}

// TestReadOfChangedTexts: trees' texts with one byte, or two, taken away, put in or changed.
func TestReadOfChangedTexts(t *testing.T) { // P16.5
	const bytes = "()0123456789-+:= infIx\n\x00\xff"
	r := rand.New(rand.NewSource(10))
	good, bad := 0, 0
	for range 60000 {
		s := someTree(r, 1+r.Intn(4)).text()
		for range 1 + r.Intn(2) {
			at := r.Intn(len(s))
			with := string(bytes[r.Intn(len(bytes))])
			s = s[:at] + []string{"", with, with + s[at:at+1]}[r.Intn(3)] + s[at+1:]
			if s == "" {
				break
			}
		}
		if wantRead(t, s) {
			good++
		} else {
			bad++
		}
	}
	if good < 5000 || bad < 20000 {
		t.Errorf("%d are texts of trees, %d aren't: the test sees too little", good, bad)
	}
	s := crowned(orderedTree(r, -3, 6)).text()
	for n := range len(s) {
		if wantRead(t, s[:n]) || wantRead(t, s[n+1:]) {
			t.Errorf("a piece of %q is a tree's text", s)
		}
	}
}

// TestReadAtMaxText: as many bytes as there may be, and one more.
func TestReadAtMaxText(t *testing.T) { // P16.5
	if table.MaxText != 8000000 {
		t.Errorf("MaxText = %d", table.MaxText)
	}
	long := map[string]string{
		"blanks":        strings.Repeat(" ", table.MaxText),
		"opening":       strings.Repeat("(", table.MaxText),
		"digits":        "(" + strings.Repeat("1", table.MaxText-1),
		"signs":         "(" + strings.Repeat("-", table.MaxText-1),
		"inner":         strings.Repeat("(1:0 ", table.MaxText/5),
		"many small":    strings.Repeat("(1:0=0) ", table.MaxText/8),
		"a tree behind": strings.Repeat(" ", table.MaxText-7) + "(5:1=0)",
		"a tree ahead":  "(5:1=0)" + strings.Repeat(" ", table.MaxText-7),
	}
	for name, s := range long {
		if got, err := table.Read(s); len(s) != table.MaxText || err != api.ErrText || len(got) != 0 {
			t.Errorf("%s, of %d bytes: %d nodes, %d", name, len(s), len(got), err)
		}
		if got, err := table.Read(s + " "); err != api.ErrBig || len(got) != 0 {
			t.Errorf("%s, of a byte more: %d nodes, %d", name, len(got), err)
		}
	}
	s := longText(table.MaxText)
	if got, err := table.Read(s); len(s) != table.MaxText || err != api.ErrBig || len(got) != 0 {
		t.Errorf("a tree's text of %d bytes: %d nodes, %d", len(s), len(got), err)
	}
	if got, err := table.Read(s[:len(s)-1] + "]"); err != api.ErrText || len(got) != 0 {
		t.Errorf("the same with a wrong last byte: %d nodes, %d", len(got), err)
	}
}

// longText: of a tree with far too many nodes, that leans to the right.
func longText(bytes int) string {
	const each = len("(1:0 (1:0=0) ") + len(")")
	inners := (bytes - 100) / each
	s := strings.Repeat("(1:0 (1:0=0) ", inners) + "(1:0=0)" + strings.Repeat(")", inners)
	for len(s) < bytes { // a longer key or weight in the first nodes
		s = strings.Replace(s, "(1:0 ", "("+strings.Repeat("1", min(18, bytes-len(s)+1))+":0 ", 1)
	}
	return s
}

// TestReadOfManyNodes: as many as there may be; two more; and what comes first of that and a text that is wrong.
func TestReadOfManyNodes(t *testing.T) { // P16.5
	for name, deep := range deepTables(mostInner) {
		s, err := table.Text(deep)
		if err != api.OK {
			t.Fatalf("%s: Text: %d", name, err)
		}
		if got, err := table.Read(s); err != api.OK || !slices.Equal(got, deep) {
			t.Errorf("%s: Read of its text: %d nodes, %d", name, len(got), err)
		}
		more := "(1:1 (1:1=1) " + s + ")"
		if got, err := table.Read(more); err != api.ErrBig || len(got) != 0 {
			t.Errorf("%s, of two nodes more: %d nodes, %d", name, len(got), err)
		}
		for _, wrong := range []string{more + " ", more[:len(more)-1], "(1:1 (01:1=1) " + s + ")", strings.Replace(more, "=", ":", 1)} {
			if got, err := table.Read(wrong); err != api.ErrText || len(got) != 0 {
				t.Errorf("%s, of two nodes more, and wrong: %d nodes, %d", name, len(got), err)
			}
		}
	}
}

// TestTextOfTheLongest: whatever a table holds, its text isn't too long to be read.
func TestTextOfTheLongest(t *testing.T) { // P16.5
	deep := deepTables(mostInner)["left"]
	for k := range deep {
		deep[k].Key, deep[k].Weight = math.MinInt, api.MaxWeight
		if deep[k].Left == -1 {
			deep[k].Val = math.MinInt
		}
	}
	s, err := table.Text(deep)
	if err != api.OK || len(s) > table.MaxText {
		t.Fatalf("a text of %d bytes, %d", len(s), err)
	}
	if got, err := table.Read(s); err != api.OK || !slices.Equal(got, deep) {
		t.Errorf("Read: %d nodes, %d", len(got), err)
	}
}
