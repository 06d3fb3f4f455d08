package gather

import (
	"runtime"
	"slices"
	"strconv"
	"sync"
	"testing"
	"time"
)

func TestAllIsInOrder(t *testing.T) {
	for _, count := range []int{0, 1, 2, Enough, 1000} {
		var parts []int
		var want []string
		for n := range count {
			parts = append(parts, n*n)
			want = append(want, strconv.Itoa(n*n))
		}
		if got := All(parts, strconv.Itoa); !slices.Equal(got, want) {
			t.Errorf("of %d parts %d results came, or not in order: %q", count, len(got), got)
		}
	}
}

// TestAllAtTheSameTime: each part waits till all have begun, so that they never end if
// one has to wait for another.
func TestAllAtTheSameTime(t *testing.T) {
	var begun sync.WaitGroup
	begun.Add(Enough)
	got := All(make([]int, Enough), func(int) bool {
		begun.Done()
		begun.Wait()
		return true
	})
	if len(got) != Enough || slices.Contains(got, false) {
		t.Errorf("%v", got)
	}
}

// TestAllLeavesNone: no goroutine is left.
func TestAllLeavesNone(t *testing.T) {
	before := runtime.NumGoroutine()
	for range 100 {
		All(make([]int, 50), strconv.Itoa)
		All(nil, strconv.Itoa)
	}
	// One that has sent its last may take a moment to be taken off the count.
	for range 100 {
		if runtime.NumGoroutine() <= before {
			return
		}
		time.Sleep(10 * time.Millisecond)
	}
	t.Errorf("%d goroutines, %d before", runtime.NumGoroutine(), before)
}
