package shell_test

import (
	"math/rand"
	"runtime"
	"runtime/metrics"
	"slices"
	"testing"
	"time"

	"larch/shell"
)

// someTexts: games, and texts that are refused.
func someTexts(r *rand.Rand, n int) []string {
	texts := make([]string, n)
	for i := range texts {
		switch r.Intn(6) {
		case 0:
			texts[i] = spoiled(r, "thread\nget 1\npick 0 9\n")
		default:
			texts[i] = naivePrint(someGame(r, 4, 4, 100))
		}
	}
	return texts
}

func TestBatch(t *testing.T) { // P28.6
	r := rand.New(rand.NewSource(9))
	for _, n := range []int{0, 1, 2, 3, 15, 16, 17, 40} {
		texts := someTexts(r, n)
		want := make([]string, n)
		for i, text := range texts {
			want[i] = shell.Run(text)
		}
		for _, workers := range []int{least, -1, 0, 1, 2, 3, 7, 15, 16, 17, 99, most} {
			if got := shell.Batch(texts, workers); !slices.Equal(got, want) {
				t.Errorf("Batch of %d texts by %d = %q, want %q", n, workers, got, want)
			}
		}
	}
	if got := shell.Batch(nil, 4); len(got) != 0 {
		t.Errorf("Batch of no texts = %q", got)
	}
	if got := shell.Batch([]string{"thread\nget 1\npick 0 9\n", "", "x"}, 2); !slices.Equal(got, []string{"t0 get 1\nt0 get 1 -> no 0\nt0 ended\n", "refused 1\n", "line 1 text\n"}) {
		t.Errorf("Batch = %q", got)
	}
}

func TestBatchOfTheExamples(t *testing.T) { // P28.6
	var texts, want []string
	for range 10 {
		for _, x := range examples {
			texts, want = append(texts, x[0]), append(want, x[1])
		}
	}
	for workers := range 20 {
		if got := shell.Batch(texts, workers); !slices.Equal(got, want) {
			t.Errorf("by %d workers: %q", workers, got)
		}
	}
}

// madeBy: how many goroutines begin while call runs.
func madeBy(call func()) int {
	samples := []metrics.Sample{{Name: "/sched/goroutines-created:goroutines"}}
	metrics.Read(samples)
	before := samples[0].Value.Uint64()
	call()
	metrics.Read(samples)
	return int(samples[0].Value.Uint64() - before)
}

// TestWorkersOfBatch: a text that is refused makes no goroutine of its own. The runtime may make a few meanwhile.
func TestWorkersOfBatch(t *testing.T) { // P28.6
	const times, few = 100, 50
	texts := slices.Repeat([]string{"x"}, 20)
	for workers, want := range map[int]int{least: 1, -1: 1, 0: 1, 1: 1, 2: 2, 15: 15, 16: 16, 17: 16, 99: 16, most: 16} {
		made := madeBy(func() {
			for range times {
				shell.Batch(texts, workers)
			}
		})
		if made < times*want || made > times*want+few {
			t.Errorf("Batch by %d, %d times: %d goroutines, want %d", workers, times, made, times*want)
		}
	}
}

func TestGoroutinesHaveEnded(t *testing.T) { // P28.6
	before := runtime.NumGoroutine()
	texts := someTexts(rand.New(rand.NewSource(10)), 50)
	for workers := range 20 {
		shell.Batch(texts, workers)
	}
	// A goroutine that has told its end is counted for a moment longer.
	for end := time.Now().Add(5 * time.Second); runtime.NumGoroutine() > before; time.Sleep(time.Millisecond) {
		if time.Now().After(end) {
			t.Fatalf("%d goroutines are left", runtime.NumGoroutine()-before)
		}
	}
}
