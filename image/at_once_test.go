package image_test

import (
	"bytes"
	"sync"
	"testing"

	"larder/api"
	"larder/image"
	"larder/script"
)

// TestAtOnce: W2, U8: several goroutines save one store and read in it, load one image, and go on each with its own store.
func TestAtOnce(t *testing.T) {
	s := manyMaps(t)
	want := save(t, s)
	b := bytes.Clone(want)
	var all sync.WaitGroup
	for i := range 8 {
		all.Go(func() {
			for range 5 {
				if c, e := image.Save(s); e != api.OK || !bytes.Equal(c, want) {
					t.Errorf("W2: Save: %d bytes, error %d", len(c), e)
				}
				if n, e := s.Len(2); n != 30 || e != api.OK {
					t.Errorf("U8: Len: %d, error %d", n, e)
				}
				u, e := image.Load(b)
				if e != api.OK {
					t.Errorf("W2: Load: error %d", e)
					return
				}
				d := draws(int64(i))
				for range 40 {
					script.Play(u, d.command(u))
				}
				if image.Sum(b) != plainSum(want) {
					t.Error("W2: Sum is another")
				}
			}
		})
	}
	all.Wait()
	if !bytes.Equal(b, want) || !bytes.Equal(save(t, s), want) {
		t.Error("W2: the image or the store is not what it was")
	}
}
