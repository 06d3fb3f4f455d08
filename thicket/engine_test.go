package thicket

import (
	"testing"

	"thicket/again"
	"thicket/api"
	"thicket/grow"
)

// TestEngines: no answer tells which engine a directory has, so this looks inside.
func TestEngines(t *testing.T) {
	c := api.Config{Engine: api.Growing, Width: 1, Window: 1, Cells: 1}
	d, _ := New(c)
	if _, ok := d.trees.(*grow.Trees); !ok {
		t.Errorf("engine %d is a %T", c.Engine, d.trees)
	}
	c.Engine = api.Again
	d, _ = New(c)
	if _, ok := d.trees.(*again.Trees); !ok {
		t.Errorf("engine %d is a %T", c.Engine, d.trees)
	}
}
