package once_test

import (
	"math"
	"runtime"
	"testing"
	"time"

	"larch/api"
	"larch/once"
)

func races() map[string]func(int) (int, int, api.Errno) {
	return map[string]func(int) (int, int, api.Errno){"Race": once.Race, "Latch": once.Latch}
}

func TestRaces(t *testing.T) { // P3.3
	for name, race := range races() {
		for _, n := range []int{0, 1, 2, 5, 8, 100, 999, 1000} {
			for range 20 {
				one, all, e := race(n)
				if one != min(n, 1) || all != n || e != api.OK {
					t.Fatalf("%s(%d) = %d, %d, %d", name, n, one, all, e)
				}
			}
		}
	}
}

func TestRacesRefused(t *testing.T) { // P3.3
	for name, race := range races() {
		for _, c := range []struct {
			n    int
			want api.Errno
		}{{-1, api.ErrArg}, {math.MinInt, api.ErrArg}, {1001, api.ErrBig}, {math.MaxInt, api.ErrBig}} {
			if one, all, e := race(c.n); one != 0 || all != 0 || e != c.want {
				t.Errorf("%s(%d) = %d, %d, %d, want error %d", name, c.n, one, all, e, c.want)
			}
		}
	}
}

func TestRacesLeaveNoGoroutine(t *testing.T) { // P3.3
	before := runtime.NumGoroutine()
	for _, race := range races() {
		race(1000)
	}
	for end := time.Now().Add(5 * time.Second); runtime.NumGoroutine() > before; time.Sleep(time.Millisecond) {
		if time.Now().After(end) {
			t.Fatalf("%d goroutines are left", runtime.NumGoroutine()-before)
		}
	}
}
