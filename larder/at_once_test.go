package larder_test

import (
	"slices"
	"sync"
	"testing"

	"larder/larder"
)

// TestAtOnce: U8, P22.6: several goroutines make all calls at once, with the same arguments and with others, and read one image and one log: each gets what it would get alone.
func TestAtOnce(t *testing.T) {
	list := stories(t, 1, 80)
	img, log := saved(t, list[0].text()), logged(t, list[0].text())
	var was [][]string
	for _, s := range list {
		was = append(was, allOf(s))
	}
	resumedAlone := resumed(t, img, list[1].text())
	_, dump, _ := larder.Replay(log)
	var all sync.WaitGroup
	for i := range 8 {
		all.Go(func() {
			for n := range list {
				at := (n + i/2*3) % len(list)
				if now := allOf(list[at]); !slices.Equal(now, was[at]) {
					t.Errorf("U8: %s: at once with others the answers are other ones", list[at].what)
				}
				out, _, _ := larder.Resume(img, list[1].text())
				_, d, _ := larder.Replay(log)
				if out != resumedAlone || d != dump {
					t.Errorf("U8: one image or one log, read at once, is answered otherwise")
				}
			}
		})
	}
	all.Wait()
}
