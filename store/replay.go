package store

import (
	"toponym/api"
	"toponym/deed"
	"toponym/image"
	"toponym/tree"
)

// replay tells the first error that it meets, whichever that is.
func replay(b string, records []string) (*tree.Tree, api.Errno) {
	t, err := image.Decode(b)
	if err != api.OK {
		return nil, err
	}
	for _, record := range records {
		if err := redo(t, record); err != api.OK {
			return nil, err
		}
	}
	return t, api.OK
}

// redo asks for no number: the tree gives the one that it gave at first.
func redo(t *tree.Tree, record string) api.Errno {
	d, err := deed.Decode(record)
	if err != api.OK {
		return err
	}
	_, err = deed.Do(t, d)
	return err
}
