package world

import (
	"bytes"
	"sort"
	"strings"

	"sextant/api"
)

const mostName = 255 // bytes of a file's name

func allowed(name string) bool {
	return name != "" && len(name) <= mostName
}

// place: where among files by rising names the one of that name stands or would stand, and whether it is there.
func place(files []api.File, name string) (i int, there bool) {
	return sort.Find(len(files), func(i int) int {
		return strings.Compare(name, files[i].Name)
	})
}

// found: where a file stands that must be there.
func found(w api.World, name string) (int, api.Errno) {
	if !Sound(w) {
		return 0, api.ErrForm
	}
	i, there := place(w.Files, name)
	if !there {
		return 0, api.ErrNone
	}
	return i, api.OK
}

// copied is w as new memory, so that no answer shares any with the world ahead of it.
func copied(w api.World) api.World {
	files := make([]api.File, len(w.Files))
	for i, f := range w.Files {
		files[i] = newFile(f.Name, f.Data)
	}
	return api.World{Files: files, In: bytes.Clone(w.In), Out: bytes.Clone(w.Out)}
}

// newFile copies the name too, which may be a piece of a long text that would be kept with it.
func newFile(name string, data []byte) api.File {
	return api.File{Name: strings.Clone(name), Data: bytes.Clone(data)}
}
